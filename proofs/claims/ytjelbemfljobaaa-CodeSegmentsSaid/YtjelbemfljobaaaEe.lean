/- exploring: areWithin -/
import Derived.Test.YtjelbemfljobaaaCc
namespace Go.Proofs.Ytjelbemfljobaaa
open Go.RowKit
set_option maxHeartbeats 1000000 in
theorem areWithin1_any (x m : Int) (b : Nat) (w : World) (hm : w.cell? ⟨b, 0, none⟩ = some (.int .i64 m)) (h0 : 0 ≤ m) (h1 : m ≤ 1000000000000) :
    Calls Try.prog 127 #[.int .i64 x, .pointer (some ⟨b, 0, none⟩)] w fun e w' => e = .returned (.bool (!withinB x (-m) m)) ∧ ∃ q, w' = w.drewN q := by
  go_enter Try.func127, Try.ntmps127
  go_wp2_with (go_at_call 80; refine (isWithin_any _ _ _ _).mono ?_; rintro e w' ⟨rfl, rfl⟩)
  go_ret
  exact ⟨rfl, 0, rfl⟩
set_option maxHeartbeats 1000000 in
theorem areWithin_any (A : Option Addr) (n c : Nat) (F : Nat → Int) (m : Int) (w : World) (hn : n ≤ 100000) (hI : IntsAt w 0 A n F) (h0 : 0 ≤ m) (h1 : m ≤ 1000000000000) :
    Calls Try.prog 109 #[.slice A n c, .int .i64 m] w fun e w' => e = .returned (.bool (!anyN n fun j => !withinB (F j) (-m) m)) ∧ Below w.heap.size w w' := by
  have HX := hide (containsFunc_any 127 #[.pointer (some ⟨w.heap.size, 0, none⟩)] (enters_of Try.func127 (by kernel_rfl) rfl) (fun x => !withinB x (-m) m) A n c F (w.alloc (.cells #[.int .i64 m] 3)) hn (hI.alloc _)
    (fun x W hW => areWithin1_any x m w.heap.size W (((Box.made rfl : Box (w.alloc (.cells #[.int .i64 m] 3)) w.heap.size 3 #[.int .i64 m]).below hW).at_ 0) h0 h1))
  clear hI
  go_enter Try.func109, Try.ntmps109
  go_wp2_with (go_at_call 121; refine HX.out.mono ?_; rintro e w' ⟨rfl, q, rfl⟩)
  go_ret
  exact ⟨rfl, by (repeat (first | (with_reducible exact Below.refl _ _) | (with_reducible refine below_drewN ?_ _) | (with_reducible refine Below.drew ?_) | (with_reducible refine Below.alloc ?_ (by first | exact Nat.le_refl _ | (simp; done) | (simp; omega) | omega) _) | (with_reducible refine Below.setCell ?_ (by first | exact Nat.le_refl _ | (simp; done) | (simp; omega) | omega) _)))⟩
end Go.Proofs.Ytjelbemfljobaaa
