/- Rows held against each other: cells, and the walks of the two references' Same, and of one. -/
import Derived.Test.YtehfejgalemhaaaNd
import Derived.Laws.StructEq
namespace Go.Proofs.Ytehfejgalemhaaa
open Go.RowKit

theorem eqIN (n : Nat) (w : World) (x y : Int) : (Op.equalIn (n + 1) 3 (.int .i64 x) (.int .i64 y)).run Try.prog w = .ok (x == y) w :=
  run_equalIn_int w n 3 .i64 .i64 x y Try.underlying3
theorem two_of' {α : Type} {l : List α} (h : l.length = 2) : ∃ a b, l = [a, b] := by
  match l, h with
  | [a, b], _ => exact ⟨a, b, rfl⟩
  | [], h => simp at h
  | [_], h => simp at h
  | _ :: _ :: _ :: _, h => simp at h
theorem three_of {α : Type} {l : List α} (h : l.length = 3) : ∃ a b c, l = [a, b, c] := by
  match l, h with
  | [a, b, c], _ => exact ⟨a, b, c, rfl⟩
  | [], h => simp at h
  | [_], h => simp at h
  | [_, _], h => simp at h
  | _ :: _ :: _ :: _ :: _, h => simp at h
theorem four_of {α : Type} {l : List α} (h : l.length = 4) : ∃ a b c d, l = [a, b, c, d] := by
  match l, h with
  | [a, b, c, d], _ => exact ⟨a, b, c, d, rfl⟩
  | [], h => simp at h
  | [_], h => simp at h
  | [_, _], h => simp at h
  | [_, _, _], h => simp at h
  | _ :: _ :: _ :: _ :: _ :: _, h => simp at h
theorem eqColor0 (w : World) : (Op.equalIn 9998 49 (.agg #[.int .i64 0, .int .i64 0]) (.agg #[.int .i64 0, .int .i64 0])).run Try.prog w = .ok true w := by
  rw [run_equalIn_struct w 9997 49 _ _ (by kernel_rfl) (by kernel_rfl)]
  have e : (Try.prog.fieldsOf 49).toList.map (fun f => (f.name, f.type, f.offset)) = [("Kind", 3, 0), ("N", 3, 1)] := by kernel_rfl
  generalize (Try.prog.fieldsOf 49).toList = fs at e ⊢
  obtain ⟨f0, f1, rfl⟩ := two_of' (by simpa using congrArg List.length e)
  simp only [List.map_cons, List.map_nil, List.cons.injEq, Prod.mk.injEq, and_true] at e
  obtain ⟨⟨n0, t0, o0⟩, ⟨n1, t1, o1⟩⟩ := e
  have hi : ∀ (W : World) (x y : Int), (Op.equalIn 9997 3 (.int .i64 x) (.int .i64 y)).run Try.prog W = .ok (x == y) W := fun W x y => eqIN 9996 W x y
  simp [Op.eqFields, n0, t0, o0, n1, t1, o1, part, hi]
theorem eqAttr0 (w : World) : (Op.equalIn 9999 51 (.agg #[.int .i64 0, .int .i64 0, .int .i64 0, .int .i64 0, .int .i64 0]) (.agg #[.int .i64 0, .int .i64 0, .int .i64 0, .int .i64 0, .int .i64 0])).run Try.prog w = .ok true w := by
  rw [run_equalIn_struct w 9998 51 _ _ (by kernel_rfl) (by kernel_rfl)]
  have e : (Try.prog.fieldsOf 51).toList.map (fun f => (f.name, f.type, f.offset)) = [("Fore", 49, 0), ("Back", 49, 2), ("Flags", 3, 4)] := by kernel_rfl
  generalize (Try.prog.fieldsOf 51).toList = fs at e ⊢
  obtain ⟨f0, f1, f2, rfl⟩ := three_of (by simpa using congrArg List.length e)
  simp only [List.map_cons, List.map_nil, List.cons.injEq, Prod.mk.injEq, and_true] at e
  obtain ⟨⟨n0, t0, o0⟩, ⟨n1, t1, o1⟩, ⟨n2, t2, o2⟩⟩ := e
  have hi : ∀ (W : World) (x y : Int), (Op.equalIn 9998 3 (.int .i64 x) (.int .i64 y)).run Try.prog W = .ok (x == y) W := fun W x y => eqIN 9997 W x y
  simp [Op.eqFields, n0, t0, o0, n1, t1, o1, n2, t2, o2, part, eqColor0, hi]
theorem eqCell (w : World) (z z' : Int) : (Op.equalIn 10000 53 (.agg #[.int .i32 z, .string ⟨#[]⟩, .int .i64 0, .int .i64 0, .int .i64 0, .int .i64 0, .int .i64 0, .int .i64 0]) (.agg #[.int .i32 z', .string ⟨#[]⟩, .int .i64 0, .int .i64 0, .int .i64 0, .int .i64 0, .int .i64 0, .int .i64 0])).run Try.prog w = .ok (z == z') w := by
  rw [run_equalIn_struct w 9999 53 _ _ (by kernel_rfl) (by kernel_rfl)]
  have e : (Try.prog.fieldsOf 53).toList.map (fun f => (f.name, f.type, f.offset)) = [("R", 21, 0), ("More", 9, 1), ("Half", 3, 2), ("Attr", 51, 3)] := by kernel_rfl
  generalize (Try.prog.fieldsOf 53).toList = fs at e ⊢
  obtain ⟨f0, f1, f2, f3, rfl⟩ := four_of (by simpa using congrArg List.length e)
  simp only [List.map_cons, List.map_nil, List.cons.injEq, Prod.mk.injEq, and_true] at e
  obtain ⟨⟨n0, t0, o0⟩, ⟨n1, t1, o1⟩, ⟨n2, t2, o2⟩, ⟨n3, t3, o3⟩⟩ := e
  have hi : ∀ (W : World) (x y : Int), (Op.equalIn 9999 3 (.int .i64 x) (.int .i64 y)).run Try.prog W = .ok (x == y) W := fun W x y => eqIN 9998 W x y
  have hi32 : ∀ (W : World) (x y : Int), (Op.equalIn 9999 21 (.int .i32 x) (.int .i32 y)).run Try.prog W = .ok (x == y) W := fun W x y => run_equalIn_int W 9998 21 .i32 .i32 x y Try.underlying21
  have hs : ∀ (W : World) (s : ByteArray), (Op.equalIn 9999 9 (.string s) (.string s)).run Try.prog W = .ok true W := fun W s => by
    rw [run_equalIn_string W 9998 9 s s Try.underlying9]
    simp
  generalize hr : (z == z') = r
  cases r <;> simp [Op.eqFields, n0, t0, o0, n1, t1, o1, n2, t2, o2, n3, t3, o3, part, eqAttr0, hi, hi32, hs, hr]
theorem Cell_guard : Try.prog.eqGuardType Try.prog.depth 53 = false := by kernel_rfl

theorem RV.eight {P : Nat → Prop} {w : World} {v1 v2 : Value} {r : Int × Bool} (h : RV P w v1 v2 r) : ∃ b c, v1 = .slice (some ⟨b, 0, none⟩) 1 c ∧ v2 = .bool r.2 ∧ b < w.heap.size ∧
    (w.cell? ⟨b, 0, none⟩ = some (.int .i32 r.1) ∧ w.cell? ⟨b, 1, none⟩ = some (.string ⟨#[]⟩) ∧ w.cell? ⟨b, 2, none⟩ = some (.int .i64 0) ∧ w.cell? ⟨b, 3, none⟩ = some (.int .i64 0) ∧ w.cell? ⟨b, 4, none⟩ = some (.int .i64 0) ∧ w.cell? ⟨b, 5, none⟩ = some (.int .i64 0) ∧ w.cell? ⟨b, 6, none⟩ = some (.int .i64 0) ∧ w.cell? ⟨b, 7, none⟩ = some (.int .i64 0)) := by
  obtain ⟨b, c, h1, h2, hlt, _, hc⟩ := h.cells
  exact ⟨b, c, h1, h2, hlt, (hc 0 _ rfl).1, (hc 1 _ rfl).1, (hc 2 _ rfl).1, (hc 3 _ rfl).1, (hc 4 _ rfl).1, (hc 5 _ rfl).1, (hc 6 _ rfl).1, (hc 7 _ rfl).1⟩
/-- A row, or none. -/
def RVo (P : Nat → Prop) (w : World) (v1 v2 : Value) : Option (Int × Bool) → Prop
  | none => v1 = .slice none 0 0 ∧ v2 = .bool false
  | some r => RV P w v1 v2 r
theorem RVo.past {P : Nat → Prop} {w w' : World} {v1 v2 : Value} {o : Option (Int × Bool)} (h : RVo P w v1 v2 o) (hb : Below w.heap.size w w') : RVo P w' v1 v2 o := by
  cases o with
  | none => exact h
  | some r => exact RV.past h hb

set_option maxRecDepth 100000 in
set_option maxHeartbeats 2000000 in
theorem same7_some {P P' : Nat → Prop} (u u2 v v2 : Value) (r r' : Int × Bool) (w : World) (h : RV P w u u2 r) (h' : RV P' w v v2 r') :
    Calls Try.prog 28 #[u, v] w fun e w' => e = .returned (.bool (r.1 == r'.1)) ∧ Below w.heap.size w w' := by
  obtain ⟨b, c, rfl, _, hlt, a0, a1, a2, a3, a4, a5, a6, a7⟩ := h.eight
  obtain ⟨b', c', rfl, _, hlt', k0, k1, k2, k3, k4, k5, k6, k7⟩ := h'.eight
  generalize r.1 = z at *
  generalize r'.1 = z' at *
  have hq := fun W => eqCell W z z'
  have hg := Cell_guard
  clear h h'
  have HA : Hid (∀ W, Below w.heap.size w W → ∀ k, W.cell? ⟨b, k, none⟩ = w.cell? ⟨b, k, none⟩ ∧ W.cell? ⟨b', k, none⟩ = w.cell? ⟨b', k, none⟩) := Lib.hid fun W hW k => ⟨hW.cell (p := ⟨b, k, none⟩) hlt, hW.cell (p := ⟨b', k, none⟩) hlt'⟩
  go_enter Try.func28, Try.ntmps28
  go_wp2
  go_loopw [5] (fun i wr => ∃ k : Nat, k ≤ 1 ∧ i = .int .i64 k ∧ Hid (k = 1 → (z == z') = true) ∧ Hid (Below w.heap.size w wr)) (fun i _ => 1 - (intOf i).toNat)
  case atStart => exact ⟨0, Nat.zero_le _, rfl, Lib.hid (fun e => by cases e), Lib.hid (Below.refl _ _)⟩
  case round =>
    obtain ⟨k, hk, rfl, HK, hB⟩ := hrel
    by_cases hlt1 : k < 1
    · obtain rfl : k = 0 := by omega
      have hA := HA.out _ hB.out
      have m0 := (hA 0).1.trans a0
      have m1 := (hA 1).1.trans a1
      have m2 := (hA 2).1.trans a2
      have m3 := (hA 3).1.trans a3
      have m4 := (hA 4).1.trans a4
      have m5 := (hA 5).1.trans a5
      have m6 := (hA 6).1.trans a6
      have m7 := (hA 7).1.trans a7
      have l0 := (hA 0).2.trans k0
      have l1 := (hA 1).2.trans k1
      have l2 := (hA 2).2.trans k2
      have l3 := (hA 3).2.trans k3
      have l4 := (hA 4).2.trans k4
      have l5 := (hA 5).2.trans k5
      have l6 := (hA 6).2.trans k6
      have l7 := (hA 7).2.trans k7
      clear hA a0 a1 a2 a3 a4 a5 a6 a7 k0 k1 k2 k3 k4 k5 k6 k7
      have hB' := Lib.hid hB.out.drew
      by_cases hzz : z = z'
      · subst hzz
        have hq1 : ∀ W, (Op.equalIn 10000 53 (.agg #[.int .i32 z, .string ⟨#[]⟩, .int .i64 0, .int .i64 0, .int .i64 0, .int .i64 0, .int .i64 0, .int .i64 0]) (.agg #[.int .i32 z, .string ⟨#[]⟩, .int .i64 0, .int .i64 0, .int .i64 0, .int .i64 0, .int .i64 0, .int .i64 0])).run Try.prog W = .ok true W := fun W => by rw [hq W]; simp
        clear HK hq
        go_wp2
        go_region
        go_wp2
        go_roundw
        case rel => exact ⟨1, Nat.le_refl _, by go_num, Lib.hid fun _ => by simp, hB'⟩
        case measure => simp [intOf]
      · have hq1 : ∀ W, (Op.equalIn 10000 53 (.agg #[.int .i32 z, .string ⟨#[]⟩, .int .i64 0, .int .i64 0, .int .i64 0, .int .i64 0, .int .i64 0, .int .i64 0]) (.agg #[.int .i32 z', .string ⟨#[]⟩, .int .i64 0, .int .i64 0, .int .i64 0, .int .i64 0, .int .i64 0, .int .i64 0])).run Try.prog W = .ok false W := fun W => by rw [hq W]; simp [hzz]
        have HZ : Hid ((z == z') = false) := Lib.hid (by simpa using hzz)
        clear HK hq hzz
        go_wp2
        go_region
        go_wp2
        go_ret
        exact ⟨by rw [HZ.out]; rfl, hB'.out⟩
    · obtain rfl : k = 1 := by omega
      have HZ := Lib.hid (HK.out rfl)
      clear HK
      go_wp2
      go_ret
      exact ⟨by rw [HZ.out]; rfl, hB.out⟩
set_option maxRecDepth 100000 in
set_option maxHeartbeats 2000000 in
theorem same7_none (w : World) : Calls Try.prog 28 #[.slice none 0 0, .slice none 0 0] w fun e w' => e = .returned (.bool true) ∧ Below w.heap.size w w' := by
  go_enter Try.func28, Try.ntmps28
  go_wp2
  go_loopw [5] (fun i wr => i = .int .i64 0 ∧ Hid (Below w.heap.size w wr)) (fun i _ => 1 - (intOf i).toNat)
  case atStart => exact ⟨rfl, Lib.hid (Below.refl _ _)⟩
  case round =>
    obtain ⟨rfl, hB⟩ := hrel
    go_wp2
    go_ret
    exact ⟨rfl, hB.out⟩
end Go.Proofs.Ytehfejgalemhaaa
