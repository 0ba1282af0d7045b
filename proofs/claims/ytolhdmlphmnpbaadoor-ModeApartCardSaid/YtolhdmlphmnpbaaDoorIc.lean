/- == of sets; the walks of Is, Known, New. -/
import Derived.Test.YtolhdmlphmnpbaaDoorIb
namespace Go.Proofs.YtolhdmlphmnpbaaDoor
open Go.RowKit

def eqS (f g : Nat → Bool) : Bool := (List.range 18).all fun k => f k == g k
theorem one_of {α : Type} {l : List α} (h : l.length = 1) : ∃ a, l = [a] := by
  match l, h with
  | [a], _ => exact ⟨a, rfl⟩
  | [], h => simp at h
  | _ :: _ :: _, h => simp at h
theorem eqArr (w : World) (f g : Nat → Bool) : (Op.equalIn 9999 24 (.agg (sv f)) (.agg (sv g))).run Tryd.prog w = .ok (eqS f g) w := by
  have hp : ∀ (W : World) (i : Nat) (h : Nat → Bool), i < 18 → (part 4 (sv h) i).run Tryd.prog W = .ok (.bool (h i)) W := fun W i h hi => by
    have := sv_at h i hi
    simp [part, this]
  have he : ∀ (W : World) (x y : Bool), (Op.equalIn 9998 4 (.bool x) (.bool y)).run Tryd.prog W = .ok (x == y) W := fun W x y => run_equalIn_bool W 9997 4 x y Tryd.underlying4
  rw [Op.equalIn]
  simp only [Sem.run_bind, run_underlying Tryd.underlying24, Result.andThen_ok, Tryd.sizeOf4]
  rw [Std.Legacy.Range.forIn_eq_forIn_range']
  have key : ∀ L : List Nat, (∀ i ∈ L, i < 18) → (forIn L ((none : Option Bool), ()) fun i __s => (do
            let __do_lift ← part 4 (sv f) (i * 1)
            let __do_lift_1 ← part 4 (sv g) (i * 1)
            let __do_lift ← Op.equalIn 9998 4 __do_lift __do_lift_1
            if (!__do_lift) = true then pure (ForInStep.done (some false, ())) else pure (ForInStep.yield (none, ())) : Sem (ForInStep (Option Bool × Unit)))).run Tryd.prog w = .ok (if L.all (fun k => f k == g k) then (none, ()) else (some false, ())) w := by
    intro L
    induction L with
    | nil => intro _; rfl
    | cons a L ih =>
      intro hL
      have ha := hL a (List.mem_cons_self ..)
      have hr := ih (fun i hi => hL i (List.mem_cons_of_mem _ hi))
      rw [List.forIn_cons]
      cases hq : (f a == g a) with
      | true =>
        simp [hp w a _ ha, he, hq]
        simpa using hr
      | false => simp [hp w a _ ha, he, hq]
  have e : List.range' [:18].start [:18].size [:18].step = List.range 18 := by decide
  rw [e, key _ (fun i hi => List.mem_range.1 hi)]
  unfold eqS
  cases (List.range 18).all fun k => f k == g k <;> rfl
theorem eqSet (w : World) (f g : Nat → Bool) : (Op.equalIn 10000 26 (.agg (sv f)) (.agg (sv g))).run Tryd.prog w = .ok (eqS f g) w := by
  rw [run_equalIn_struct w 9999 26 _ _ (by kernel_rfl) (by kernel_rfl)]
  have e : (Tryd.prog.fieldsOf 26).toList.map (fun f => (f.name, f.type, f.offset)) = [("on", 24, 0)] := by kernel_rfl
  generalize (Tryd.prog.fieldsOf 26).toList = fs at e ⊢
  obtain ⟨f0, rfl⟩ := one_of (by simpa using congrArg List.length e)
  simp only [List.map_cons, List.map_nil, List.cons.injEq, Prod.mk.injEq, and_true] at e
  obtain ⟨n0, t0, o0⟩ := e
  have hx : ∀ (W : World) (h : Nat → Bool), (part 24 (sv h) 0).run Tryd.prog W = .ok (.agg (sv h)) W := fun W h => by
    have : (sv h).extract 0 18 = sv h := by
      rw [← sv_size h, Array.extract_size]
    simp [part, this]
  cases h : eqS f g <;> simp [Op.eqFields, n0, t0, o0, hx, eqArr, h]
theorem guardSet : Tryd.prog.eqGuardType Tryd.prog.depth 26 = false := by kernel_rfl
end Go.Proofs.YtolhdmlphmnpbaaDoor
