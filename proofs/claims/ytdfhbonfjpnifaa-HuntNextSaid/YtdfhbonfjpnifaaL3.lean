/- The walks of a nil hunt's Next and Left; the law HuntFirst. -/
import Derived.Test.YtdfhbonfjpnifaaL1
namespace Go.Proofs.Ytdfhbonfjpnifaa
open Go.RowKit

set_option maxRecDepth 100000 in
theorem nextNil_any (W : World) : Calls Try.prog 16 #[.pointer none] W fun e w' => e = .returned (.tuple #[.agg #[.int .i64 0, .int .i64 0], .bool false]) ∧ Below W.heap.size W w' := by
  have HFIN : Hid (∀ o, Below W.heap.size W (W.alloc o)) := Lib.hid fun o => belA (Below.refl _ _) o
  have HROW : Hid ((W.alloc (.cells #[.int .i64 0, .int .i64 0] 33)).heap[W.heap.size]? = some (.cells #[.int .i64 0, .int .i64 0] 33 (0, 0))) := Lib.hid (heap_alloc_new W _)
  go_enter Try.func16, Try.ntmps16
  go_wp2_with fail
  (try simp only [Exit.inBlock, Exit.then])
  refine bodyPost_ret (results_cell_tmp rfl _ _ W.heap.size _ _ _ _ rfl HROW.out Try.underlying33 rfl sizeHit) rfl ?_
  exact ⟨rfl, HFIN.out _⟩
set_option maxRecDepth 100000 in
theorem leftNil_any (W : World) : Calls Try.prog 15 #[.pointer none] W fun e w' => e = .returned (.int .i64 0) ∧ Below W.heap.size W w' := by
  have HB := Lib.hid (Below.refl W.heap.size W)
  go_enter Try.func15, Try.ntmps15
  go_wp2
  go_ret
  exact ⟨rfl, HB.out⟩

end Go.Proofs.Ytdfhbonfjpnifaa
