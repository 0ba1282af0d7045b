/- The walk of the law WidthText. -/
import Derived.Test.YtacmldggdacdpaaDoorWh
namespace Go.Proofs.YtacmldggdacdpaaDoor
open Go.RowKit Go.Shelf

set_option maxHeartbeats 1000000 in
theorem widthText_law (A : Option Addr) (xs : List Int) (n c : Nat) (hn : n = xs.length) (w : World) (hT : WT w) (hR : RS w w.heap.size A xs) :
    Calls Tryd.prog 11 #[.slice A n c] w fun e w' => e = .returned (.bool true) ∧ Below w.heap.size w w' := by
  have h3 : Hid (∀ W, Below w.heap.size w W → Calls Tryd.prog 31 #[] W fun e w' => e = .returned (.bool true) ∧ Below W.heap.size W w') := Lib.hid fun W hW => awake_any W (hT.below hW)
  by_cases h200 : 200 < n
  · clear hn
    go_enter Tryd.func11, Tryd.ntmps11
    go_wp2_with (go_at_call 31; refine (h3.out _ (Below.refl _ _)).mono ?_; rintro e w3 ⟨rfl, hb3⟩)
    go_ret
    exact ⟨rfl, hb3⟩
  · have h1 := text_any A xs n c hn (by omega) w hT hR
    have h2 : Hid (∀ W, Below w.heap.size w W → Calls Tryd.prog 33 #[.slice A n c] W fun e w' => e = .returned (.int .i64 (textZ xs)) ∧ Below W.heap.size W w') := Lib.hid fun W hW => refText_any A xs n c hn (by omega) W ((hR.below hW).more hW.size)
    clear hT hR hn
    generalize textZ xs = z at *
    go_enter Tryd.func11, Tryd.ntmps11
    go_wp2_with (first | (go_at_call 32; refine h1.mono ?_; rintro e w1 ⟨rfl, hb1⟩) | (go_at_call 33; refine (h2.out _ hb1).mono ?_; rintro e w2 ⟨rfl, hb2⟩; have hb2' := hb1.trans (hb2.mono hb1.size)) | (go_at_call 31; refine (h3.out _ hb2').mono ?_; rintro e w3 ⟨rfl, hb3⟩))
    go_ret
    exact ⟨rfl, hb2'.trans (hb3.mono hb2'.size)⟩

end Go.Proofs.YtacmldggdacdpaaDoor
