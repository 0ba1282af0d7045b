/- Package mode: the modes, their table in memory; the walks of place's closure, find, place. -/
import Derived.Test.YtolhdmlphmnpbaaDoorKa
import Derived.Laws.StructEq
namespace Go.Proofs.YtolhdmlphmnpbaaDoor
open Go.RowKit

/-- The modes, in the order in which they are told. -/
def modesL : List (Bool × Int) := [(false, 4), (false, 20), (true, 1), (true, 5), (true, 6), (true, 7), (true, 25), (true, 47), (true, 66), (true, 1000), (true, 1002), (true, 1003), (true, 1004), (true, 1006), (true, 1047), (true, 1048), (true, 1049), (true, 2004)]
def pM (k : Nat) : Bool := (modesL[k]?.getD (false, 0)).1
def nM (k : Nat) : Int := (modesL[k]?.getD (false, 0)).2
def namesV : Array Value := #[.bool false, .int .i64 4, .bool false, .int .i64 20, .bool true, .int .i64 1, .bool true, .int .i64 5, .bool true, .int .i64 6, .bool true, .int .i64 7, .bool true, .int .i64 25, .bool true, .int .i64 47, .bool true, .int .i64 66, .bool true, .int .i64 1000, .bool true, .int .i64 1002, .bool true, .int .i64 1003, .bool true, .int .i64 1004, .bool true, .int .i64 1006, .bool true, .int .i64 1047, .bool true, .int .i64 1048, .bool true, .int .i64 1049, .bool true, .int .i64 2004]
/-- The table lies where the program's variable lies. -/
def NT (w : World) : Prop := ∃ t fr, w.heap[0]? = some (.cells namesV t fr)
theorem NT.below {w w' : World} (h : NT w) (hb : Below w.heap.size w w') : NT w' := by
  obtain ⟨t, fr, h⟩ := h
  exact ⟨t, fr, (hb.block _ (Array.getElem?_eq_some_iff.1 h).1).trans h⟩
theorem index_mode (k : Nat) (hk : k < 18) (W : World) : (Instr.index 51 (.agg namesV) (.int .i64 k)).run Tryd.prog W = .ok (.agg #[.bool (pM k), .int .i64 (nM k)]) W := by
  rcases (by omega : k = 0 ∨ k = 1 ∨ k = 2 ∨ k = 3 ∨ k = 4 ∨ k = 5 ∨ k = 6 ∨ k = 7 ∨ k = 8 ∨ k = 9 ∨ k = 10 ∨ k = 11 ∨ k = 12 ∨ k = 13 ∨ k = 14 ∨ k = 15 ∨ k = 16 ∨ k = 17) with rfl | rfl | rfl | rfl | rfl | rfl | rfl | rfl | rfl | rfl | rfl | rfl | rfl | rfl | rfl | rfl | rfl | rfl <;> rfl

theorem two_of {α : Type} {l : List α} (h : l.length = 2) : ∃ a b, l = [a, b] := by
  match l, h with
  | [a, b], _ => exact ⟨a, b, rfl⟩
  | [], h => simp at h
  | [_], h => simp at h
  | _ :: _ :: _ :: _, h => simp at h
theorem eqName (w : World) (a c : Bool) (b d : Int) : (Op.equalIn 10000 50 (.agg #[.bool a, .int .i64 b]) (.agg #[.bool c, .int .i64 d])).run Tryd.prog w = .ok (a == c && b == d) w := by
  rw [run_equalIn_struct w 9999 50 _ _ (by kernel_rfl) (by kernel_rfl)]
  have e : (Tryd.prog.fieldsOf 50).toList.map (fun f => (f.name, f.type, f.offset)) = [("private", 4, 0), ("n", 3, 1)] := by kernel_rfl
  generalize (Tryd.prog.fieldsOf 50).toList = fs at e ⊢
  obtain ⟨f0, f1, rfl⟩ := two_of (by simpa using congrArg List.length e)
  simp only [List.map_cons, List.map_nil, List.cons.injEq, Prod.mk.injEq, and_true] at e
  obtain ⟨⟨n0, t0, o0⟩, ⟨n1, t1, o1⟩⟩ := e
  have hi : ∀ (W : World) (x y : Int), (Op.equalIn 9999 3 (.int .i64 x) (.int .i64 y)).run Tryd.prog W = .ok (x == y) W := fun W x y => run_equalIn_int W 9998 3 .i64 .i64 x y Tryd.underlying3
  have hb : ∀ (W : World) (x y : Bool), (Op.equalIn 9999 4 (.bool x) (.bool y)).run Tryd.prog W = .ok (x == y) W := fun W x y => run_equalIn_bool W 9998 4 x y Tryd.underlying4
  by_cases h : a = c
  · subst h
    by_cases h' : b = d
    · simp [Op.eqFields, n0, t0, o0, n1, t1, o1, part, hi, hb, h']
    · simp [Op.eqFields, n0, t0, o0, n1, t1, o1, part, hi, hb, h']
  · simp [Op.eqFields, n0, t0, o0, n1, t1, o1, part, hi, hb, h]
theorem guardName : Tryd.prog.eqGuardType Tryd.prog.depth 50 = false := by kernel_rfl

/-- What place's closure has caught. -/
structure PC (w : World) (P1 P2 : Nat) (p : Bool) (n : Int) : Prop where
  h1 : w.heap[P1]? = some (.cells #[.bool p] 4 (0, 0))
  h2 : w.heap[P2]? = some (.cells #[.int .i64 n] 3 (0, 0))
theorem PC.past {w w' : World} {P1 P2 : Nat} {p : Bool} {n : Int} (h : PC w P1 P2 p n) (hb : Below w.heap.size w w') : PC w' P1 P2 p n := by
  have k : ∀ {i : Nat} {o : Obj}, w.heap[i]? = some o → w'.heap[i]? = some o := fun {i o} hi => (hb.block i (Array.getElem?_eq_some_iff.1 hi).1).trans hi
  exact ⟨k h.h1, k h.h2⟩
theorem placeFn_any (P1 P2 : Nat) (p a : Bool) (n b : Int) (w : World) (h : PC w P1 P2 p n) :
    Calls Tryd.prog 27 #[.agg #[.bool a, .int .i64 b], .pointer (some ⟨P1, 0, none⟩), .pointer (some ⟨P2, 0, none⟩)] w fun e w' => e = .returned (.bool (a == p && b == n)) ∧ Below w.heap.size w w' := by
  have hb1 := belA (Below.refl w.heap.size w) (.cells #[.bool a, .int .i64 b] 50)
  have c1 := cell_of_row _ _ 0 _ _ _ (h.past hb1).h1
  have c2 := cell_of_row _ _ 0 _ _ _ (h.past hb1).h2
  have he := fun W => eqName W a p b n
  have hg := guardName
  have HB := Lib.hid hb1
  clear h hb1
  go_enter Tryd.func27, Tryd.ntmps27
  go_wp2
  go_ret
  exact ⟨rfl, HB.out⟩

/-- The first of the 18 places that is meant, -1 of none. -/
def posQ (q : Nat → Bool) : Int := match (List.range 18).find? q with | some k => k | none => -1
theorem posQ_yes {q : Nat → Bool} {k : Nat} (hk : k < 18) (h : q k = true) (hf : ∀ j, j < k → q j = false) : posQ q = k := by
  have : (List.range 18).find? q = some k := by
    rw [List.find?_range_eq_some]
    exact ⟨h, List.mem_range.2 hk, fun j hj => by simp [hf j hj]⟩
  rw [posQ, this]
theorem posQ_no {q : Nat → Bool} (hf : ∀ j, j < 18 → q j = false) : posQ q = -1 := by
  have : (List.range 18).find? q = none := by
    rw [List.find?_eq_none]
    intro k hk
    rw [hf k (List.mem_range.1 hk)]
    simp
  rw [posQ, this]
theorem posQ_cases (q : Nat → Bool) : (∃ k : Nat, k < 18 ∧ q k = true ∧ posQ q = k ∧ ∀ j, j < k → q j = false) ∨ (posQ q = -1 ∧ ∀ j, j < 18 → q j = false) := by
  cases h : (List.range 18).find? q with
  | some k =>
    obtain ⟨h1, h2, h3⟩ := List.find?_range_eq_some.1 h
    exact .inl ⟨k, List.mem_range.1 h2, h1, by rw [posQ, h], fun j hj => by simpa using h3 j hj⟩
  | none =>
    refine .inr ⟨by rw [posQ, h], fun j hj => ?_⟩
    have := List.find?_eq_none.1 h j (List.mem_range.2 hj)
    simpa using this

set_option maxRecDepth 100000 in
set_option maxHeartbeats 4000000 in
theorem findPlace_any (P1 P2 : Nat) (p : Bool) (n : Int) (w : World) (h : PC w P1 P2 p n) (hT : NT w) :
    Calls Tryd.prog 25 #[.func (.func 27) #[] #[.pointer (some ⟨P1, 0, none⟩), .pointer (some ⟨P2, 0, none⟩)]] w fun e w' => e = .returned (.int .i64 (posQ fun k => pM k == p && nM k == n)) ∧ Below w.heap.size w w' := by
  obtain ⟨tt, fr, hL⟩ := hT
  have HP := Lib.hid h
  clear h
  go_enter Tryd.func25, Tryd.ntmps25
  go_wp2_with (refine wpList_load_row rfl 51 _ rfl 0 rfl tt namesV fr _ hL Tryd.underlying51 rfl (by kernel_rfl) ?_)
  clear hL
  go_loopw [6] (fun q wr => ∃ k : Nat, q = .int .i64 k ∧ k ≤ 18 ∧ Hid (∀ j, j < k → (pM j == p && nM j == n) = false) ∧ Hid (Below w.heap.size w wr)) (fun q _ => 18 - (intOf q).toNat)
  case atStart => exact ⟨0, rfl, Nat.zero_le _, Lib.hid (fun j hj => by omega), Lib.hid (Below.refl _ _)⟩
  case round =>
    obtain ⟨k, rfl, hk, HK, HB⟩ := hrel
    by_cases hlt : k < 18
    · have hki : (k : Int) < 18 := by omega
      have hix := index_mode k hlt
      have HW := Lib.hid (belA HB.out (.cells #[.bool (pM k), .int .i64 (nM k)] 50))
      have HC := Lib.hid (placeFn_any P1 P2 p (pM k) n (nM k) _ (HP.out.past HW.out))
      generalize hq : (pM k == p && nM k == n) = q at *
      cases q with
      | true =>
        have HS := Lib.hid (posQ_yes (q := fun k => pM k == p && nM k == n) hlt hq (fun j hj => HK.out j hj))
        clear hq HK
        generalize pM k = a at *
        generalize nM k = b at *
        go_wp2_with (go_at_call 27; (with_reducible refine (HC.out).mono ?_); rintro e w1 ⟨rfl, hb⟩; have HB1 := Lib.hid (bel0 HW.out hb); clear hb)
        go_ret
        exact ⟨by rw [HS.out]; rfl, HB1.out⟩
      | false =>
        have HKN : Hid (∀ j, j < k + 1 → (pM j == p && nM j == n) = false) := Lib.hid fun j hj => by
          rcases (by omega : j < k ∨ j = k) with h | rfl
          · exact HK.out j h
          · exact hq
        clear hq HK
        generalize pM k = a at *
        generalize nM k = b at *
        go_wp2_with (go_at_call 27; (with_reducible refine (HC.out).mono ?_); rintro e w1 ⟨rfl, hb⟩; have HB1 := Lib.hid (bel0 HW.out hb); clear hb)
        go_roundw
        case rel => exact ⟨k + 1, by go_num, hlt, HKN, HB1⟩
        case measure => simp [intOf]; omega
    · obtain rfl : k = 18 := by omega
      have HS := Lib.hid (posQ_no (q := fun k => pM k == p && nM k == n) (fun j hj => HK.out j hj))
      clear HK
      go_wp2
      go_ret
      exact ⟨by rw [HS.out]; rfl, HB.out⟩

def placeZ (p : Bool) (n : Int) : Int := posQ fun k => pM k == p && nM k == n
set_option maxHeartbeats 1000000 in
theorem place_any (p : Bool) (n : Int) (w : World) (hT : NT w) :
    Calls Tryd.prog 21 #[.bool p, .int .i64 n] w fun e w' => e = .returned (.int .i64 (placeZ p n)) ∧ Below w.heap.size w w' := by
  have HW := Lib.hid (belA (belA (Below.refl w.heap.size w) (.cells #[.bool p] 4)) (.cells #[.int .i64 n] 3))
  have HC := Lib.hid (findPlace_any w.heap.size (w.heap.size + 1) p n ((w.alloc (.cells #[.bool p] 4)).alloc (.cells #[.int .i64 n] 3)) ⟨by
    rw [heap_alloc_old (h := by simp)]
    exact heap_alloc_new w _, by
    have := heap_alloc_new (w.alloc (.cells #[.bool p] 4)) (.cells #[.int .i64 n] 3)
    rwa [World.size_alloc] at this⟩ (hT.below HW.out))
  clear hT
  go_enter Tryd.func21, Tryd.ntmps21
  go_wp2_with (go_at_call 25; (with_reducible refine (HC.out).mono ?_); rintro e w1 ⟨rfl, hb⟩; have HB1 := Lib.hid (bel0 HW.out hb); clear hb)
  go_ret
  exact ⟨rfl, HB1.out⟩
end Go.Proofs.YtolhdmlphmnpbaaDoor
