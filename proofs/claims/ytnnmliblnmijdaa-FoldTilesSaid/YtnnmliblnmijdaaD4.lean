/- Items and folds held against each other; Lay of what can't be; the document's Same; the example. -/
import Derived.Test.YtnnmliblnmijdaaD3
import Derived.Laws.StructEq
namespace Go.Proofs.Ytnnmliblnmijdaa
open Go.RowKit

theorem eqIN (n : Nat) (w : World) (x y : Int) : (Op.equalIn (n + 1) 3 (.int .i64 x) (.int .i64 y)).run Try.prog w = .ok (x == y) w :=
  run_equalIn_int w n 3 .i64 .i64 x y Try.underlying3
theorem eqUN (n : Nat) (w : World) (x y : Int) : (Op.equalIn (n + 1) 38 (.int .u64 x) (.int .u64 y)).run Try.prog w = .ok (x == y) w :=
  run_equalIn_int w n 38 .u64 .u64 x y Try.underlying38
theorem three_of {α : Type} {l : List α} (h : l.length = 3) : ∃ a b c, l = [a, b, c] := by
  match l, h with
  | [a, b, c], _ => exact ⟨a, b, c, rfl⟩
  | [], h => simp at h
  | [_], h => simp at h
  | [_, _], h => simp at h
  | _ :: _ :: _ :: _ :: _, h => simp at h
theorem eqItem (w : World) (a b c a' b' c' : Int) : (Op.equalIn 10000 40 (.agg #[.int .i64 a, .int .u64 b, .int .i64 c]) (.agg #[.int .i64 a', .int .u64 b', .int .i64 c'])).run Try.prog w = .ok (a == a' && (b == b' && c == c')) w := by
  rw [run_equalIn_struct w 9999 40 _ _ (by kernel_rfl) (by kernel_rfl)]
  have e : (Try.prog.fieldsOf 40).toList.map (fun f => (f.name, f.type, f.offset)) = [("Row", 3, 0), ("Id", 38, 1), ("Hidden", 3, 2)] := by kernel_rfl
  generalize (Try.prog.fieldsOf 40).toList = fs at e ⊢
  obtain ⟨f0, f1, f2, rfl⟩ := three_of (by simpa using congrArg List.length e)
  simp only [List.map_cons, List.map_nil, List.cons.injEq, Prod.mk.injEq, and_true] at e
  obtain ⟨⟨n0, t0, o0⟩, ⟨n1, t1, o1⟩, ⟨n2, t2, o2⟩⟩ := e
  by_cases h : a = a'
  · by_cases h' : b = b'
    · by_cases h2 : c = c'
      · simp [Op.eqFields, n0, t0, o0, n1, t1, o1, n2, t2, o2, part, eqIN, eqUN, h, h', h2]
      · simp [Op.eqFields, n0, t0, o0, n1, t1, o1, n2, t2, o2, part, eqIN, eqUN, h, h', h2]
    · simp [Op.eqFields, n0, t0, o0, n1, t1, o1, n2, t2, o2, part, eqIN, eqUN, h, h']
  · simp [Op.eqFields, n0, t0, o0, n1, t1, o1, n2, t2, o2, part, eqIN, eqUN, h]
theorem eqFold (w : World) (a b c a' b' c' : Int) : (Op.equalIn 10000 48 (.agg #[.int .i64 a, .int .i64 b, .int .u64 c]) (.agg #[.int .i64 a', .int .i64 b', .int .u64 c'])).run Try.prog w = .ok (a == a' && (b == b' && c == c')) w := by
  rw [run_equalIn_struct w 9999 48 _ _ (by kernel_rfl) (by kernel_rfl)]
  have e : (Try.prog.fieldsOf 48).toList.map (fun f => (f.name, f.type, f.offset)) = [("From", 3, 0), ("To", 3, 1), ("Id", 38, 2)] := by kernel_rfl
  generalize (Try.prog.fieldsOf 48).toList = fs at e ⊢
  obtain ⟨f0, f1, f2, rfl⟩ := three_of (by simpa using congrArg List.length e)
  simp only [List.map_cons, List.map_nil, List.cons.injEq, Prod.mk.injEq, and_true] at e
  obtain ⟨⟨n0, t0, o0⟩, ⟨n1, t1, o1⟩, ⟨n2, t2, o2⟩⟩ := e
  by_cases h : a = a'
  · by_cases h' : b = b'
    · by_cases h2 : c = c'
      · simp [Op.eqFields, n0, t0, o0, n1, t1, o1, n2, t2, o2, part, eqIN, eqUN, h, h', h2]
      · simp [Op.eqFields, n0, t0, o0, n1, t1, o1, n2, t2, o2, part, eqIN, eqUN, h, h', h2]
    · simp [Op.eqFields, n0, t0, o0, n1, t1, o1, n2, t2, o2, part, eqIN, eqUN, h, h']
  · simp [Op.eqFields, n0, t0, o0, n1, t1, o1, n2, t2, o2, part, eqIN, eqUN, h]
theorem guardItem : Try.prog.eqGuardType Try.prog.depth 40 = false := by kernel_rfl
theorem guardFold : Try.prog.eqGuardType Try.prog.depth 48 = false := by kernel_rfl
def eq3 (x y : T3) : Bool := x.1 == y.1 && (x.2.1 == y.2.1 && x.2.2 == y.2.2)
theorem eq3_iff (x y : T3) : eq3 x y = true ↔ x = y := by
  obtain ⟨a, b, c⟩ := x
  obtain ⟨a', b', c'⟩ := y
  simp [eq3]
theorem same_no {L M : List T3} (k : Nat) (h : eq3 (Nth L k) (Nth M k) = false) : decide (L = M) = false := decide_eq_false fun e => by
  rw [e, (eq3_iff _ _).2 rfl] at h
  cases h
theorem same_yes {L M : List T3} (hl : L.length = M.length) (h : ∀ k, k < L.length → eq3 (Nth L k) (Nth M k) = true) : decide (L = M) = true := decide_eq_true (by
  apply List.ext_getElem hl
  intro i h1 h2
  have := (eq3_iff _ _).1 (h i h1)
  unfold Nth at this
  rw [List.getElem?_eq_getElem h1, List.getElem?_eq_getElem h2] at this
  exact this)
set_option maxRecDepth 100000 in
set_option maxHeartbeats 4000000 in
theorem same_any (A A' : Option Addr) (L M : List T3) (n n' c c' : Nat) (hn : n = L.length) (hn' : n' = M.length) (hl : n ≤ 1000000) (w : World) (h : RK encI 3 w A L) (h' : RK encI 3 w A' M) :
    Calls Try.prog 15 #[.slice A n c, .slice A' n' c'] w fun e w' => e = .returned (.bool (decide (L = M))) ∧ Below w.heap.size w w' := by
  have hgu := guardItem
  by_cases hnn : n = n'
  · have HN := Lib.hid hn
    have HN' := Lib.hid (hnn.trans hn')
    have HR := Lib.hid h
    have HR' := Lib.hid h'
    subst hnn
    clear hn hn' h h'
    go_enter Try.func15, Try.ntmps15
    go_wp2
    go_loopw [5] (fun i wr => ∃ k : Nat, k ≤ n ∧ i = .int .i64 k ∧ Hid (∀ j, j < k → eq3 (Nth L j) (Nth M j) = true) ∧ Hid (Below w.heap.size w wr)) (fun i _ => n - (intOf i).toNat)
    case atStart => exact ⟨0, Nat.zero_le _, rfl, Lib.hid (fun j hj => by omega), Lib.hid (Below.refl _ _)⟩
    case round =>
      obtain ⟨k, hk, rfl, HK, HB⟩ := hrel
      by_cases hlt : k < n
      · have hki : (k : Int) < n := by omega
        obtain ⟨b, off, rfl, hG⟩ := HR.out.it (fun e => by have := HN.out; rw [e] at this; simp at this; omega)
        obtain ⟨b', off', rfl, hG'⟩ := HR'.out.it (fun e => by have := HN'.out; rw [e] at this; simp at this; omega)
        obtain ⟨G0, GA⟩ := hG _ HB.out
        obtain ⟨L0, LA⟩ := hG' _ HB.out
        obtain ⟨a0, a1, a2⟩ := GA k (by have := HN.out; omega)
        obtain ⟨k0, k1, k2⟩ := LA k (by have := HN'.out; omega)
        have hB' := fun nq => Lib.hid (bel0 HB.out (belN' wr nq))
        clear hG hG' GA LA
        cases hq : eq3 (Nth L k) (Nth M k) with
        | true =>
          have hq1 := fun W => eqItem W (Nth L k).1 (Nth L k).2.1 (Nth L k).2.2 (Nth M k).1 (Nth M k).2.1 (Nth M k).2.2
          have hq2 := hq
          unfold eq3 at hq2
          rw [hq2] at hq1
          have HQ := Lib.hid hq
          have HKN : Hid (∀ j, j < k + 1 → eq3 (Nth L j) (Nth M j) = true) := Lib.hid fun j hj => by
            rcases (by omega : j < k ∨ j = k) with h | rfl
            · exact HK.out j h
            · exact HQ.out
          clear hq hq2 HK HQ
          generalize Nth L k = x at *
          generalize Nth M k = y at *
          go_wp2
          go_quiet (fail)
          go_wp2
          go_roundw
          case rel => exact ⟨k + 1, hlt, by go_num, HKN, hB' nq⟩
          case measure => simp [intOf]; omega
        | false =>
          have hq1 := fun W => eqItem W (Nth L k).1 (Nth L k).2.1 (Nth L k).2.2 (Nth M k).1 (Nth M k).2.1 (Nth M k).2.2
          have hq2 := hq
          unfold eq3 at hq2
          rw [hq2] at hq1
          have HS := Lib.hid (same_no k hq)
          clear hq hq2 HK
          generalize Nth L k = x at *
          generalize Nth M k = y at *
          go_wp2
          go_quiet (fail)
          go_wp2
          go_ret
          exact ⟨(by rw [HS.out]; try rfl), (hB' nq).out⟩
      · obtain rfl : k = n := by omega
        have HS := Lib.hid (same_yes (L := L) (M := M) (by have := HN.out; have := HN'.out; omega) (fun j hj => HK.out j (by have := HN.out; omega)))
        clear HK
        go_wp2
        go_ret
        exact ⟨(by rw [HS.out]; try rfl), HB.out⟩
  · have HS : Hid (decide (L = M) = false) := Lib.hid (decide_eq_false fun e => hnn (by rw [hn, hn', e]))
    have hd : ¬ (n : Int) = n' := by omega
    have hdb : ((n : Int) == n') = false := by simp; omega
    have hdc : ((n : Int) != n') = true := by simp; omega
    clear h h' hn hn'
    go_enter Try.func15, Try.ntmps15
    go_wp2
    go_ret
    exact ⟨(by rw [HS.out]; try rfl), Below.refl _ _⟩
set_option maxRecDepth 100000 in
set_option maxHeartbeats 4000000 in
theorem lay_bad (A : Option Addr) (l : List T3) (n c : Nat) (hn : n = l.length) (hl : n ≤ 1000000) (rows : Int) (hb : rows < 0 ∨ 200000 < rows ∨ rightB rows 0 l = false) (w : World) (h : RK encF 3 w A l) :
    Calls Try.prog 10 #[.int .i64 rows, .slice A n c] w fun e w' => e = .returned (.tuple #[.slice none 0 0, .int .i64 1]) ∧ Below w.heap.size w w' := by
  have HC := Lib.hid (count_bad A l n c hn hl rows hb w h)
  clear h hn hb
  go_enter Try.func10, Try.ntmps10
  go_wp2_with (go_at_call 11; (with_reducible refine HC.out.mono ?_); rintro e w1 ⟨rfl, hb⟩; have HB1 := Lib.hid hb; clear hb HC)
  go_ret2
  exact ⟨rfl, HB1.out⟩
/-- Elements that were laid by a literal. -/
theorem rk_lit {enc : T3 → List Value} (hK : ∀ x, (enc x).length = 3) (W : World) (cs : Array Value) (t : TypeId) (L : List T3) (hcs : cs = (rowsV enc L).toArray) : RK enc 3 (W.alloc (.cells cs t)) (some ⟨W.heap.size, 0, none⟩) L := fun _ =>
  ⟨W.heap.size, 0, rfl, by simp, fun i x hx j u hj => by
    have hj3 : j < 3 := by have := (List.getElem?_eq_some_iff.1 hj).1; rwa [hK] at this
    have h1 := rowsV_at enc 3 hK L i j x hx hj3
    rw [hj] at h1
    rw [Nat.zero_add, cell_of_row _ _ _ _ _ _ (heap_alloc_new W _), ← h1, hcs]
    simp⟩
set_option maxRecDepth 100000 in
set_option maxHeartbeats 4000000 in
theorem awake_any (w : World) : Calls Try.prog 8 #[] w fun e w' => e = .returned (.bool true) ∧ Below w.heap.size w w' := by
  have HR0 := Lib.hid (rk_lit encF_len w #[.int .i64 1, .int .i64 4, .int .u64 7] 48 [(1, 4, 7)] rfl)
  have HB0 := Lib.hid (belA (Below.refl w.heap.size w) (.cells #[.int .i64 1, .int .i64 4, .int .u64 7] 48))
  have HL : Hid (Calls Try.prog 10 #[.int .i64 5, .slice (some ⟨w.heap.size, 0, none⟩) 1 1] (w.alloc (.cells #[.int .i64 1, .int .i64 4, .int .u64 7] 48)) fun e w' => ∃ A' c', e = .returned (.tuple #[.slice A' 3 c', .int .i64 0]) ∧ RK encI 3 w' A' [(0, 0, 0), (1, 7, 3), (4, 0, 0)] ∧ Below w.heap.size w w') := Lib.hid <|
    (lay_any (some ⟨w.heap.size, 0, none⟩) [(1, 4, 7)] 1 1 rfl (by omega) 5 (by omega) (by omega) (by decide) _ HR0.out).mono fun e w' ⟨A', c', he, hr, hb⟩ => ⟨A', c', he, hr, bel1 (Below.refl _ _) hb⟩
  have HS : Hid (∀ (W : World) A c, RK encI 3 W A [(0, 0, 0), (1, 7, 3), (4, 0, 0)] → Calls Try.prog 15 #[.slice A 3 c, .slice (some ⟨W.heap.size, 0, none⟩) 3 3] (W.alloc (.cells #[.int .i64 0, .int .u64 0, .int .i64 0, .int .i64 1, .int .u64 7, .int .i64 3, .int .i64 4, .int .u64 0, .int .i64 0] 40)) fun e w' => e = .returned (.bool true) ∧ Below W.heap.size W w') := Lib.hid fun W A c h =>
    (same_any A _ [(0, 0, 0), (1, 7, 3), (4, 0, 0)] [(0, 0, 0), (1, 7, 3), (4, 0, 0)] 3 3 c 3 rfl rfl (by omega) _ (h.past (belA (Below.refl _ _) _)) (rk_lit encI_len W _ _ _ rfl)).mono fun e w' h => ⟨h.1, bel1 (Below.refl _ _) h.2⟩
  go_enter Try.func8, Try.ntmps8
  go_wp2_with (first
    | (go_at_call 10; (with_reducible refine HL.out.mono ?_); rintro e w1 ⟨A1, c1, rfl, hr, hb⟩; have HR1 := Lib.hid hr; have HB1 := Lib.hid hb; clear hr hb HL)
    | (go_at_call 15; (with_reducible refine (HS.out w1 A1 c1 HR1.out).mono ?_); rintro e w2 ⟨rfl, hb⟩; have HB2 := Lib.hid (bel0 HB1.out hb); clear hb HS))
  go_ret
  exact ⟨rfl, HB2.out⟩

end Go.Proofs.Ytnnmliblnmijdaa
