/- Hits are held against hits; is there more than is asked of. -/
import Derived.Test.YtjifekdjkjnefaaK6
import Derived.Laws.StructEq
namespace Go.Proofs.Ytjifekdjkjnefaa
open Go.RowKit

theorem two_ofH {α : Type} {l : List α} (h : l.length = 2) : ∃ a b, l = [a, b] := by
  match l, h with
  | [a, b], _ => exact ⟨a, b, rfl⟩
  | [], h => simp at h
  | [_], h => simp at h
  | _ :: _ :: _ :: _, h => simp at h
theorem eqI (w : World) (x y : Int) : (Op.equalIn 9999 3 (.int .i64 x) (.int .i64 y)).run Try.prog w = .ok (x == y) w :=
  run_equalIn_int w 9998 3 .i64 .i64 x y Try.underlying3
theorem eqHit (w : World) (a b c d : Int) : (Op.equalIn 10000 33 (.agg #[.int .i64 a, .int .i64 b]) (.agg #[.int .i64 c, .int .i64 d])).run Try.prog w = .ok (a == c && b == d) w := by
  rw [run_equalIn_struct w 9999 33 _ _ (by kernel_rfl) (by kernel_rfl)]
  have e : (Try.prog.fieldsOf 33).toList.map (fun f => (f.name, f.type, f.offset)) = [("At", 3, 0), ("Which", 3, 1)] := by kernel_rfl
  generalize (Try.prog.fieldsOf 33).toList = fs at e ⊢
  obtain ⟨f0, f1, rfl⟩ := two_ofH (by simpa using congrArg List.length e)
  simp only [List.map_cons, List.map_nil, List.cons.injEq, Prod.mk.injEq, and_true] at e
  obtain ⟨⟨n0, t0, o0⟩, ⟨n1, t1, o1⟩⟩ := e
  by_cases h : a = c
  · by_cases h' : b = d
    · simp [Op.eqFields, n0, t0, o0, n1, t1, o1, part, eqI, h, h']
    · simp [Op.eqFields, n0, t0, o0, n1, t1, o1, part, eqI, h, h']
  · simp [Op.eqFields, n0, t0, o0, n1, t1, o1, part, eqI, h]
theorem guardHit : Try.prog.eqGuardType Try.prog.depth 33 = false := by kernel_rfl
theorem eqHit_self (w : World) (a b : Int) : (Op.equalIn 10000 33 (.agg #[.int .i64 a, .int .i64 b]) (.agg #[.int .i64 a, .int .i64 b])).run Try.prog w = .ok true w := by
  rw [eqHit]
  simp
set_option maxRecDepth 100000 in
set_option maxHeartbeats 2000000 in
/-- Hits are the same as themselves. -/
theorem sameH_any (L : List (Nat × Nat)) (n c c' : Nat) (A A' : Option Addr) (hn : n = L.length) (hl : n ≤ 1000000) (w : World) (hR : RH w w.heap.size A L) (hR' : RH w w.heap.size A' L) :
    Calls Try.prog 11 #[.slice A n c, .slice A' n c'] w fun e w' => e = .returned (.bool true) ∧ Below w.heap.size w w' := by
  have HR := Lib.hid hR
  have HR' := Lib.hid hR'
  have HN := Lib.hid hn
  have hg := guardHit
  clear hR hR' hn
  go_enter Try.func11, Try.ntmps11
  go_wp2
  go_loopw [5] (fun q wr => ∃ k : Nat, q = .int .i64 k ∧ k ≤ n ∧ Hid (Below w.heap.size w wr)) (fun q _ => n - (intOf q).toNat)
  case atStart => exact ⟨0, by go_num, Nat.zero_le _, Lib.hid (Below.refl _ _)⟩
  case round =>
    obtain ⟨k, rfl, hk, HB⟩ := hrel
    by_cases hlt : k < n
    · have hki : (k : Int) < n := by omega
      have hne : L ≠ [] := fun e => by have := HN.out; rw [e] at this; simp at this; omega
      obtain ⟨b, off, rfl, hblt, hc⟩ := HR.out hne
      obtain ⟨b', off', rfl, hblt', hc'⟩ := HR'.out hne
      have h1 := hc k (by rw [← HN.out]; exact hlt)
      have h2 := hc' k (by rw [← HN.out]; exact hlt)
      have c0 : wr.cell? ⟨b, off + k * 2, none⟩ = some (.int .i64 ((L[k]?.getD (0, 0)).1 : Nat)) := (HB.out.cell (p := ⟨b, off + k * 2, none⟩) hblt).trans h1.1
      have c1 : wr.cell? ⟨b, off + k * 2 + 1, none⟩ = some (.int .i64 ((L[k]?.getD (0, 0)).2 : Nat)) := (HB.out.cell (p := ⟨b, off + k * 2 + 1, none⟩) hblt).trans h1.2
      have d0 : wr.cell? ⟨b', off' + k * 2, none⟩ = some (.int .i64 ((L[k]?.getD (0, 0)).1 : Nat)) := (HB.out.cell (p := ⟨b', off' + k * 2, none⟩) hblt').trans h2.1
      have d1 : wr.cell? ⟨b', off' + k * 2 + 1, none⟩ = some (.int .i64 ((L[k]?.getD (0, 0)).2 : Nat)) := (HB.out.cell (p := ⟨b', off' + k * 2 + 1, none⟩) hblt').trans h2.2
      have HBN := Lib.hid (fun n => bel0 HB.out (belN' wr n))
      clear hc hc' hblt hblt' h1 h2 hne HB
      generalize L[k]?.getD (0, 0) = x at *
      have E := fun W => eqHit_self W x.1 x.2
      go_wp2_with fail
      go_quiet (fail)
      have HB2 := Lib.hid (HBN.out nq)
      clear HBN c0 c1 d0 d1
      generalize wr.drewN nq = wq at *
      go_wp2
      go_roundw
      case rel => exact ⟨k + 1, by go_num, hlt, HB2⟩
      case measure => simp [intOf]; omega
    · obtain rfl : k = n := by omega
      go_wp2
      go_ret
      exact ⟨rfl, HB.out⟩
/-- Is there more than is asked of? -/
def SmallH (T : List UInt8) (Ns : List (List UInt8)) : Prop := T.length ≤ 200 ∧ Ns.length ≤ 30 ∧ ∀ i, i < Ns.length → (nAt Ns i).length ≤ 100
def GreatPost (T : List UInt8) (Ns : List (List UInt8)) (w : World) (e : Ending) (w' : World) : Prop := ∃ r : Bool, (r = false → SmallH T Ns) ∧ e = .returned (.bool r) ∧ w = w'
set_option maxRecDepth 100000 in
set_option maxHeartbeats 2000000 in
theorem great_any (T : List UInt8) (Ns : List (List UInt8)) (n c : Nat) (A : Option Addr) (hn : n = Ns.length) (hn63 : n ≤ 9223372036854775807) (w : World) (hR : RT w w.heap.size A Ns) :
    Calls Try.prog 9 #[.string (bsB T), .slice A n c] w (GreatPost T Ns w) := by
  have hsT : ((bsB T).size : Int) = T.length := by rw [bsB_size]
  have HR := Lib.hid hR
  have HN := Lib.hid hn
  generalize hbT : bsB T = sT at *
  clear hR hn hbT
  go_enter Try.func9, Try.ntmps9
  go_wp2
  go_loopw [6] (fun q wr => ∃ k : Nat, q = .int .i64 k ∧ k ≤ n ∧ k ≤ 50 ∧ Hid (∀ i, i < k → (nAt Ns i).length ≤ 100) ∧ w = wr) (fun q _ => n - (intOf q).toNat)
  case atStart => exact ⟨0, by go_num, Nat.zero_le _, by omega, Lib.hid fun i hi => by omega, rfl⟩
  case round =>
    obtain ⟨k, rfl, hk, hk50, HK, rfl⟩ := hrel
    by_cases hlt : k < n
    · have hki : (k : Int) < n := by omega
      by_cases h50 : k < 50
      · have h50i : (k : Int) < 50 := by omega
        obtain ⟨b, off, rfl, hblt, hc⟩ := HR.out (fun e => by have := HN.out; rw [e] at this; simp at this; omega)
        have hck := hc k (by rw [← HN.out]; exact hlt)
        have hsz : ((bsB (nAt Ns k)).size : Int) = (nAt Ns k).length := by rw [bsB_size]
        by_cases h100 : (nAt Ns k).length ≤ 100
        · have h1i : ¬ (100 : Int) < (nAt Ns k).length := by omega
          have HK2 : Hid (∀ i, i < k + 1 → (nAt Ns i).length ≤ 100) := Lib.hid fun i hi => by
            rcases Nat.lt_or_ge i k with h | h
            · exact HK.out i h
            · obtain rfl : i = k := by omega
              exact h100
          clear hc hblt h100 HK
          generalize (nAt Ns k).length = nl at *
          generalize bsB (nAt Ns k) = sN at *
          go_wp2
          go_roundw
          case rel => exact ⟨k + 1, by go_num, hlt, by omega, HK2, trivial⟩
          case measure => simp [intOf]; omega
        · have h1i : (100 : Int) < (nAt Ns k).length := by omega
          clear hc hblt h100 HK
          generalize (nAt Ns k).length = nl at *
          generalize bsB (nAt Ns k) = sN at *
          go_wp2
          go_ret
          exact ⟨true, fun e => (by cases e), rfl, rfl⟩
      · have h50i : ¬ (k : Int) < 50 := by omega
        have hn30 : (30 : Int) < n := by omega
        by_cases hT : T.length ≤ 200
        · have hTi : ¬ (200 : Int) < T.length := by omega
          go_wp2
          go_ret
          exact ⟨true, fun e => (by cases e), rfl, rfl⟩
        · have hTi : (200 : Int) < T.length := by omega
          go_wp2
          go_ret
          exact ⟨true, fun e => (by cases e), rfl, rfl⟩
    · obtain rfl : k = n := by omega
      by_cases hT : T.length ≤ 200
      · have hTi : ¬ (200 : Int) < T.length := by omega
        by_cases hn30 : k ≤ 30
        · have hni : ¬ (30 : Int) < k := by omega
          have HS : Hid (SmallH T Ns) := Lib.hid ⟨hT, by rw [← HN.out]; exact hn30, fun i hi => HK.out i (by rw [HN.out]; exact hi)⟩
          clear hT hn30
          go_wp2
          go_ret
          exact ⟨false, fun _ => HS.out, rfl, rfl⟩
        · have hni : (30 : Int) < k := by omega
          go_wp2
          go_ret
          exact ⟨true, fun e => (by cases e), rfl, rfl⟩
      · have hTi : (200 : Int) < T.length := by omega
        go_wp2
        go_ret
        exact ⟨true, fun e => (by cases e), rfl, rfl⟩

end Go.Proofs.Ytjifekdjkjnefaa
