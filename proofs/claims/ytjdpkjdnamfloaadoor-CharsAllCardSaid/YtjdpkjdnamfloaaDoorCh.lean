/- States, and rows of four numbers, held against themselves. -/
import Derived.Test.YtjdpkjdnamfloaaDoorKa
import Derived.Laws.StructEq
namespace Go.Proofs.YtjdpkjdnamfloaaDoor
open Go.RowKit

theorem eq4 (n : Nat) (w : World) (a b c d : Int) : (Op.equalIn (n + 2) 22 (.agg #[.int .i64 a, .int .i64 b, .int .i64 c, .int .i64 d]) (.agg #[.int .i64 a, .int .i64 b, .int .i64 c, .int .i64 d])).run Tryd.prog w = .ok true w := by
  have hp : ∀ (W : World) (i : Nat) (v : Value), [Value.int .i64 a, .int .i64 b, .int .i64 c, .int .i64 d][i]? = some v → (part 3 #[Value.int .i64 a, .int .i64 b, .int .i64 c, .int .i64 d] i).run Tryd.prog W = .ok v W := fun W i v h => by
    simp [part, h]
  have he : ∀ (W : World) (x : Int), (Op.equalIn (n + 1) 3 (.int .i64 x) (.int .i64 x)).run Tryd.prog W = .ok true W := fun W x => by
    rw [run_equalIn_int W n 3 .i64 .i64 x x Tryd.underlying3]
    simp
  rw [Op.equalIn]
  simp only [Sem.run_bind, run_underlying Tryd.underlying22, Result.andThen_ok, Tryd.sizeOf3]
  rw [Std.Legacy.Range.forIn_eq_forIn_range']
  simp [List.range', hp, he]

theorem three_of {α : Type} {l : List α} (h : l.length = 3) : ∃ a b c, l = [a, b, c] := by
  match l, h with
  | [a, b, c], _ => exact ⟨a, b, c, rfl⟩
  | [], h => simp at h
  | [_], h => simp at h
  | [_, _], h => simp at h
  | _ :: _ :: _ :: _ :: _, h => simp at h
theorem eq4a (w : World) (a b c d : Int) : (Op.equalIn 9999 22 (.agg #[.int .i64 a, .int .i64 b, .int .i64 c, .int .i64 d]) (.agg #[.int .i64 a, .int .i64 b, .int .i64 c, .int .i64 d])).run Tryd.prog w = .ok true w := eq4 9997 w a b c d
theorem eq4b (w : World) (a b c d : Int) : (Op.equalIn 10000 22 (.agg #[.int .i64 a, .int .i64 b, .int .i64 c, .int .i64 d]) (.agg #[.int .i64 a, .int .i64 b, .int .i64 c, .int .i64 d])).run Tryd.prog w = .ok true w := eq4 9998 w a b c d
theorem eqInt (w : World) (x : Int) : (Op.equalIn 9999 3 (.int .i64 x) (.int .i64 x)).run Tryd.prog w = .ok true w := by
  rw [run_equalIn_int w 9998 3 .i64 .i64 x x Tryd.underlying3]
  simp
theorem eqState (w : World) (a b c d u o : Int) : (Op.equalIn 10000 24 (.agg #[.int .i64 a, .int .i64 b, .int .i64 c, .int .i64 d, .int .i64 u, .int .i64 o]) (.agg #[.int .i64 a, .int .i64 b, .int .i64 c, .int .i64 d, .int .i64 u, .int .i64 o])).run Tryd.prog w = .ok true w := by
  rw [run_equalIn_struct w 9999 24 _ _ (by kernel_rfl) (by kernel_rfl)]
  have e : (Tryd.prog.fieldsOf 24).toList.map (fun f => (f.name, f.type, f.offset)) = [("Sets", 22, 0), ("Use", 3, 4), ("Once", 3, 5)] := by kernel_rfl
  generalize (Tryd.prog.fieldsOf 24).toList = fs at e ⊢
  obtain ⟨f0, f1, f2, rfl⟩ := three_of (by simpa using congrArg List.length e)
  simp only [List.map_cons, List.map_nil, List.cons.injEq, Prod.mk.injEq, and_true] at e
  obtain ⟨⟨n0, t0, o0⟩, ⟨n1, t1, o1⟩, ⟨n2, t2, o2⟩⟩ := e
  simp [Op.eqFields, n0, t0, o0, n1, t1, o1, n2, t2, o2, part, eq4a, eqInt]
theorem eqS (w : World) (a b c d u o : Int) : (Op.equalIn 10000 28 (.agg #[.int .i64 a, .int .i64 b, .int .i64 c, .int .i64 d, .int .i64 u, .int .i64 o]) (.agg #[.int .i64 a, .int .i64 b, .int .i64 c, .int .i64 d, .int .i64 u, .int .i64 o])).run Tryd.prog w = .ok true w := by
  rw [run_equalIn_struct w 9999 28 _ _ (by kernel_rfl) (by kernel_rfl)]
  have e : (Tryd.prog.fieldsOf 28).toList.map (fun f => (f.name, f.type, f.offset)) = [("G", 22, 0), ("Use", 3, 4), ("Once", 3, 5)] := by kernel_rfl
  generalize (Tryd.prog.fieldsOf 28).toList = fs at e ⊢
  obtain ⟨f0, f1, f2, rfl⟩ := three_of (by simpa using congrArg List.length e)
  simp only [List.map_cons, List.map_nil, List.cons.injEq, Prod.mk.injEq, and_true] at e
  obtain ⟨⟨n0, t0, o0⟩, ⟨n1, t1, o1⟩, ⟨n2, t2, o2⟩⟩ := e
  simp [Op.eqFields, n0, t0, o0, n1, t1, o1, n2, t2, o2, part, eq4a, eqInt]

theorem cells6 {W w' : World} {v0 v1 v2 v3 v4 v5 : Value} {t : TypeId} (hb : Below (W.alloc (.cells #[v0, v1, v2, v3, v4, v5] t)).heap.size (W.alloc (.cells #[v0, v1, v2, v3, v4, v5] t)) w') :
    w'.cell? ⟨W.heap.size, 0, none⟩ = some v0 ∧ w'.cell? ⟨W.heap.size, 1, none⟩ = some v1 ∧ w'.cell? ⟨W.heap.size, 2, none⟩ = some v2 ∧ w'.cell? ⟨W.heap.size, 3, none⟩ = some v3 ∧ w'.cell? ⟨W.heap.size, 4, none⟩ = some v4 ∧ w'.cell? ⟨W.heap.size, 5, none⟩ = some v5 := by
  have h : ∀ k, w'.cell? ⟨W.heap.size, k, none⟩ = (W.alloc (.cells #[v0, v1, v2, v3, v4, v5] t)).cell? ⟨W.heap.size, k, none⟩ := fun k => hb.cell (p := ⟨W.heap.size, k, none⟩) (by simp)
  have g : ∀ k, (W.alloc (.cells #[v0, v1, v2, v3, v4, v5] t)).cell? ⟨W.heap.size, k, none⟩ = #[v0, v1, v2, v3, v4, v5][k]? := fun k => cell_of_row _ _ _ _ _ _ (heap_alloc_new W _)
  exact ⟨(h 0).trans (g 0), (h 1).trans (g 1), (h 2).trans (g 2), (h 3).trans (g 3), (h 4).trans (g 4), (h 5).trans (g 5)⟩

theorem frozen6 {W w' : World} {cs : Array Value} {t : TypeId} (hb : Below (W.alloc (.cells cs t)).heap.size (W.alloc (.cells cs t)) w') : ∀ k, w'.frozen? ⟨W.heap.size, k, none⟩ = false := fun k => by
  have h := hb.frozen (p := ⟨W.heap.size, k, none⟩) (by simp)
  rw [h]
  simp only [World.frozen?]
  rw [heap_alloc_new]
  simp

end Go.Proofs.YtjdpkjdnamfloaaDoor
