/- The walk of hunt.Replace. -/
import Derived.BigQuiet
import Derived.Test.YtjifekdjkjnefaaP1
import Derived.Test.YtjifekdjkjnefaaP2
import Derived.Test.YtjifekdjkjnefaaP3
import Derived.Test.YtjifekdjkjnefaaN3
namespace Go.Proofs.Ytjifekdjkjnefaa
open Go.RowKit Go.Shelf

theorem enL_bd {T : List UInt8} {Ns : List (List UInt8)} {D : List (Nat × Nat)} {e : Nat} (h : ChL T Ns D e) : ∀ k, k ≤ D.length → enL Ns D k ≤ T.length
  | 0, _ => Nat.zero_le _
  | k + 1, hk => (h.hd k (by omega)).2.2
/-- The text with F in the hits' places. -/
def rpA (T : List UInt8) (Ns : List (List UInt8)) (F : Nat → List UInt8) (D : List (Nat × Nat)) : List UInt8 := rpL T Ns F D D.length ++ T.drop (enL Ns D D.length)
theorem str_bytes (l : List UInt8) : Lib.strCells (bsB l) = Lib.byteCells l := by simp [Lib.strCells, Lib.byteCells, bsB]
theorem bytes_app (l m : List UInt8) : Lib.byteCells (l ++ m) = Lib.byteCells l ++ Lib.byteCells m := by simp [Lib.byteCells]
/-- The hits' row lies while a builder grows. -/
theorem hits_lie {w1 : World} {B b m c1 : Nat} {A1 : Option Addr} {D : List (Nat × Nat)} (ho : w1.ownsRow B 33 2 (.slice A1 m c1) m (htV D)) (hbB : b < B) (hm : m = D.length) (h0 : 0 < m) :
    ∃ g, A1 = some ⟨g, 0, none⟩ ∧ ∀ W, SF b w1 W → g < W.heap.size ∧ ∀ k, k < m → W.cell? ⟨g, k * 2, none⟩ = some (.int .i64 ((hAt D k).1 : Nat)) ∧ W.cell? ⟨g, k * 2 + 1, none⟩ = some (.int .i64 ((hAt D k).2 : Nat)) := by
  obtain ⟨A, c, e, hA⟩ := own_form ho
  obtain ⟨g, rfl⟩ := hA h0
  cases e
  have hlt := ho.lt g rfl
  obtain ⟨cur, hk⟩ := own_kind ho rfl
  rcases ho.2 with ⟨e, _⟩ | ⟨g', cap, cur', e, _, hh, _, _, _, ht⟩
  · cases e
  · cases e
    refine ⟨_, rfl, fun W hW => ?_⟩
    have hw := hW.keep _ _ _ _ hh (by decide) (by omega)
    refine ⟨(Array.getElem?_eq_some_iff.1 hw).1, fun k hkm => ?_⟩
    obtain ⟨h1, h2⟩ := htV_at' D k (hm ▸ hkm)
    have get : ∀ j v, (htV D)[j]? = some v → W.cell? ⟨g, j, none⟩ = some v := fun j v hj => by
      rw [cell_of_row _ _ j _ _ _ hw]
      rw [← ht, List.getElem?_take] at hj
      split at hj
      · simpa using hj
      · cases hj
    exact ⟨get _ _ h1, get _ _ h2⟩

set_option maxRecDepth 100000 in
set_option maxHeartbeats 8000000 in
theorem replace_any (T : List UInt8) (Ns : List (List UInt8)) (n c : Nat) (A : Option Addr) (hT : T.length ≤ 1000000) (hn : n = Ns.length) (hn2 : n ≤ 1000) (hNs : ∀ k, (nAt Ns k).length ≤ 1000000) (hb : (hitsL T Ns).length ≤ 1000000) (F : Nat → List UInt8) (hF : ∀ i, (F i).length ≤ 1000) (wv : Value) (w : World) (hR : RT w w.heap.size A Ns)
    (hI : ∀ W (k : Nat), k < Ns.length → Below w.heap.size w W → Calls Try.prog 31 #[wv, .int .i64 (k : Nat)] W fun e w' => e = .returned (.string (bsB (F k))) ∧ Below W.heap.size W w') :
    Calls Try.prog 21 #[.string (bsB T), wv, .slice A n c] w fun e w' => e = .returned (.string (bsB (rpA T Ns F (lgL Ns (hitsL T Ns))))) ∧ Below w.heap.size w w' := by
  have hch := chL_all T Ns
  have hdl := Nat.le_trans (lgL_le Ns (hitsL T Ns)) hb
  have HLG := Lib.hid (fun W (hW : Below w.heap.size w W) => longest_any T Ns n c A hT hn hn2 hNs hb W ((hR.below hW).more hW.size))
  generalize lgL Ns (hitsL T Ns) = D at *
  have hle := rpL_le hF hch
  have hen := enL_bd hch
  have HHD := Lib.hid hch.hd
  have HI := Lib.hid hI
  have HR := Lib.hid hR
  have HN := Lib.hid hn
  have HWS := Lib.hid (fun bs s W => writeStringF (w.heap.size + 1) w.heap.size bs s W)
  have hB0 : Below w.heap.size w (w.alloc (.cells #[.pointer none, .slice none 0 0] 60)) := belA (Below.refl _ _) _
  have hT0 : TB (w.heap.size + 1) w.heap.size [] (w.alloc (.cells #[.pointer none, .slice none 0 0] 60)) := .inl ⟨Nat.lt_succ_self _, _, heap_alloc_new _ _, World.ownsRow_nil _ _ _ _⟩
  have HB0 := Lib.hid hB0
  have HT0 := Lib.hid hT0
  have hlm : D.length ≤ 1000000 := hdl
  have HLN : Hid (∀ k, k ≤ D.length → (rpL T Ns F D k).length ≤ 1001000000) := Lib.hid fun k hk => by
    have h1 := hle k hk
    have h2 := hen k hk
    have h3 : k * 1000 ≤ 1000000 * 1000 := Nat.mul_le_mul_right _ (by omega)
    omega
  have HEN := Lib.hid hen
  unfold HitsPost at HLG
  clear hch hI hR hn hle hen hB0 hT0 hb hF
  go_enter Try.func21, Try.ntmps21
  go_wp2_with (go_at_call 18; (with_reducible refine (HLG.out _ HB0.out).mono ?_); rintro e w1 ⟨A1, c1, rfl, ho, hb1⟩; have HO1 := Lib.hid ho; have HT1 := Lib.hid (TB.past HT0.out hb1); have HB1 := Lib.hid (bel0 HB0.out hb1); have HS1 : Hid (w.heap.size + 1 ≤ w1.heap.size) := Lib.hid (by have := hb1.size; simp at this; omega); clear ho hb1 HT0 HB0 HLG)
  obtain ⟨m, hm⟩ : ∃ m, m = D.length := ⟨_, rfl⟩
  rw [← hm] at HO1 ⊢
  have HM := Lib.hid hm
  clear hm
  have HX : Hid (∀ e a, (bsB T).extract e a = bsB ((T.take a).drop e)) := Lib.hid fun e a => by rw [bs_extract, List.drop_take]
  have HXE : Hid (∀ e, (bsB T).extract e T.length = bsB (T.drop e)) := Lib.hid fun e => by rw [bs_extract, List.take_of_length_le (by simp)]
  have HSZ : Hid ((bsB T).size = T.length) := Lib.hid (bsB_size T)
  go_loopg [8, 15] m (fun gh s8 s15 wx => ∃ i : Nat, i + gh = m ∧ s15 = .int .i64 i ∧ s8 = .int .i64 (enL Ns D i : Nat) ∧ Hid (TB (w.heap.size + 1) w.heap.size (Lib.byteCells (rpL T Ns F D i)) wx) ∧ Hid (BU w.heap.size (w.heap.size + 1) w1 wx) ∧ Hid (SF w.heap.size w1 wx))
  case atStart => exact ⟨0, by omega, rfl, rfl, HT1, Lib.hid (BU.refl _ _ _), Lib.hid (SF.refl _ _)⟩
  case round =>
    obtain ⟨i, hi, rfl, rfl, HTB, HBU, HSF⟩ := hrel
    have hbw : Below w.heap.size w wr := HB1.out.trans (HBU.out.below (Nat.le_refl _) (Nat.lt_succ_self _))
    have HBW := Lib.hid hbw
    have hle := HEN.out i (by rw [← HM.out]; omega)
    have hln := HLN.out i (by rw [← HM.out]; omega)
    have HS2 : Hid (w.heap.size + 1 ≤ wr.heap.size) := Lib.hid (Nat.le_trans HS1.out HBU.out.size)
    clear hbw
    cases gk with
    | zero =>
      obtain rfl : m = i := by omega
      have HRP : Hid (rpA T Ns F D = rpL T Ns F D m ++ T.drop (enL Ns D m)) := Lib.hid (by unfold rpA; rw [← HM.out])
      have HW : Hid (Calls Try.prog 30 #[.pointer (some ⟨w.heap.size, 0, none⟩), .string (bsB (T.drop (enL Ns D m)))] wr fun e w' => e = .returned (.tuple #[.int .i64 (bsB (T.drop (enL Ns D m))).size, .nilIface]) ∧ TB (w.heap.size + 1) w.heap.size (Lib.byteCells (rpA T Ns F D)) w' ∧ Below w.heap.size w w') := Lib.hid (by
        refine (HWS.out _ (bsB (T.drop (enL Ns D m))) wr HTB.out (by rw [Lib.byteCells_length, bsB_size, List.length_drop]; omega) HS2.out).mono fun e w' ⟨he, ht, hu, _⟩ => ⟨he, .inr ?_, HBW.out.trans (hu.below (Nat.le_refl _) (Nat.lt_succ_self _))⟩
        rw [HRP.out, bytes_app, ← str_bytes (T.drop _)]
        exact ht)
      have HST : Hid (∀ W, TB (w.heap.size + 1) w.heap.size (Lib.byteCells (rpA T Ns F D)) W → w.heap.size ≤ W.heap.size → Calls Try.prog 32 #[.pointer (some ⟨w.heap.size, 0, none⟩)] W fun e w' => e = .returned (.string (bsB (rpA T Ns F D))) ∧ Below w.heap.size W w') := Lib.hid fun W h hs =>
        Try.Builder_String_any w.heap.size w.heap.size _ W (TB.at h (Nat.le_refl _)) hs
      have hxe := HXE.out (enL Ns D m)
      have hsz := HSZ.out
      have hee : ((enL Ns D m : Nat) : Int) ≤ T.length := by omega
      clear HRP HWS HX HXE HTB HBU HSF hln
      generalize bsB (T.drop (enL Ns D m)) = s1 at *
      generalize enL Ns D m = en at *
      go_wp2_with (first
        | (go_at_call 30; (with_reducible refine (HW.out).mono ?_); rintro e w2 ⟨rfl, ht2, hb2⟩; have HT2 := Lib.hid ht2; have HB2 := Lib.hid hb2; clear ht2 hb2)
        | (go_at_call 32; (with_reducible refine (HST.out _ HT2.out HB2.out.size).mono ?_); rintro e w3 ⟨rfl, hb3⟩; have HB3 := Lib.hid (HB2.out.trans hb3); clear hb3))
      go_ret
      exact ⟨rfl, HB3.out⟩
    | succ gh =>
      have hlt : i < m := by omega
      have hmm : m ≤ 1000000 := by rw [HM.out]; exact hlm
      have hii : (i : Int) < m := by omega
      obtain ⟨h1, h2, h3⟩ := HHD.out i (HM.out ▸ hlt)
      obtain ⟨g, rfl, hG⟩ := hits_lie (b := w.heap.size) HO1.out (by simp) HM.out (by omega)
      obtain ⟨g0, gA⟩ := hG wr HSF.out
      obtain ⟨c0, c1'⟩ := gA i hlt
      have HEI : Hid (enL Ns D (i + 1) = (hAt D i).1 + (nAt Ns (hAt D i).2).length) := Lib.hid rfl
      have HRI : Hid (rpL T Ns F D (i + 1) = rpL T Ns F D i ++ (T.take (hAt D i).1).drop (enL Ns D i) ++ F (hAt D i).2) := Lib.hid rfl
      clear hG gA
      generalize hx : hAt D i = x at *
      obtain ⟨p, k⟩ := x
      simp only at h1 h2 h3 c0 c1' HEI HRI
      have hx1 := HX.out (enL Ns D i) p
      have hsz := HSZ.out
      have hpT : p ≤ T.length := by have := HEI.out; omega
      have hpi : (p : Int) ≤ T.length := by omega
      have hep : ((enL Ns D i : Nat) : Int) ≤ p := by omega
      have hkn : k < n := by rw [HN.out]; exact h2
      have hki : (k : Int) < n := by omega
      have hk0 : (0 : Int) ≤ k := by omega
      have hp0 : (0 : Int) ≤ p := by omega
      have he0 : (0 : Int) ≤ (enL Ns D i : Nat) := by omega
      obtain ⟨nb, noff, rfl, hnb, hnc⟩ := HR.out (fun e => by rw [e] at h2; simp at h2)
      have HNC := Lib.hid (fun W (hW : Below w.heap.size w W) => (hW.cell (p := ⟨nb, noff + k, none⟩) hnb).trans (hnc k h2))
      have HNB := Lib.hid (fun W (hW : Below w.heap.size w W) => Nat.lt_of_lt_of_le hnb hW.size)
      have HIK := Lib.hid (fun W hW => HI.out W k h2 hW)
      have HBX := Lib.hid (heap_alloc_new wr (.cells #[.int .i64 (p : Nat), .int .i64 (k : Nat)] 33))
      have HWA := Lib.hid (belA (Below.refl wr.heap.size wr) (.cells #[.int .i64 (p : Nat), .int .i64 (k : Nat)] 33))
      have HNE : Hid (wr.heap.size ≠ w.heap.size) := Lib.hid (by have := HS2.out; omega)
      have hl1 : (Lib.byteCells (rpL T Ns F D i)).length + (bsB ((T.take p).drop (enL Ns D i))).size ≤ 140737488355328 := by
        rw [Lib.byteCells_length, bsB_size, List.length_drop, List.length_take]; omega
      have hl2 : (Lib.byteCells (rpL T Ns F D i) ++ Lib.strCells (bsB ((T.take p).drop (enL Ns D i)))).length + (bsB (F k)).size ≤ 140737488355328 := by
        have hq := HLN.out (i + 1) (by rw [← HM.out]; omega)
        rw [HRI.out, List.length_append, List.length_append] at hq
        rw [List.length_append, Lib.byteCells_length, Lib.strCells_length, bsB_size, bsB_size]; omega
      have HW1 := Lib.hid (HWS.out (Lib.byteCells (rpL T Ns F D i)) (bsB ((T.take p).drop (enL Ns D i))) _ (TB.past HTB.out HWA.out) hl1 (Nat.le_trans HS2.out HWA.out.size))
      have HW2 := Lib.hid (fun W h => HWS.out _ (bsB (F k)) W h hl2)
      have HOUT : Hid (Lib.byteCells (rpL T Ns F D i) ++ Lib.strCells (bsB ((T.take p).drop (enL Ns D i))) ++ Lib.strCells (bsB (F k)) = Lib.byteCells (rpL T Ns F D (i + 1))) := Lib.hid (by rw [HRI.out, bytes_app, bytes_app, str_bytes, str_bytes])
      have HBU0 := Lib.hid (HBU.out.trans (BU.of_below HWA.out HS2.out))
      have HSF0 := Lib.hid (HSF.out.trans (SF.below HWA.out))
      have HLK : Hid ((bsB (nAt Ns k)).size = (nAt Ns k).length) := Lib.hid (bsB_size _)
      have hlk := HLK.out
      have hlk6 := hNs k
      clear hnc hl1 hl2 HWS HX HXE HI HHD HEN HLN HRI HTB HBU HSF hle hln
      generalize Lib.byteCells (rpL T Ns F D i) = bs at *
      generalize bsB ((T.take p).drop (enL Ns D i)) = s1 at *
      generalize bsB (F k) = s2 at *
      generalize bsB (nAt Ns k) = nk at *
      go_wp2_with (first
        | (go_at_call 30; (with_reducible refine (HW1.out).mono ?_); rintro e w2 ⟨rfl, ht, hu, hs⟩; have HT2 := Lib.hid ht; have HU2 := Lib.hid (HBU0.out.trans hu); have HF2 := Lib.hid (HSF0.out.trans hs); have HX2 := Lib.hid (hs.keep _ _ _ _ HBX.out (by decide) HNE.out); have HB2 := Lib.hid (HB1.out.trans (HU2.out.below (Nat.le_refl _) (Nat.lt_succ_self _))); have q1 : w2.cell? ⟨wr.heap.size, 1, none⟩ = some (.int .i64 (k : Nat)) := cell_of_row _ _ 1 _ _ _ HX2.out; clear ht hu hs HW1)
        | (go_at_call 31; (with_reducible refine (HIK.out _ HB2.out).mono ?_); rintro e w3 ⟨rfl, hb⟩; have HT3 : Hid (TB (w.heap.size + 1) w.heap.size _ w3) := Lib.hid (.inr (TW.past HT2.out hb)); have hs3 : w.heap.size + 1 ≤ w3.heap.size := Nat.le_trans HS1.out (Nat.le_trans HU2.out.size hb.size); have HU3 := Lib.hid (HU2.out.trans (BU.of_below hb (Nat.le_trans HS1.out HU2.out.size))); have HF3 := Lib.hid (HF2.out.trans (SF.below hb)); have HX3 := Lib.hid ((hb.block _ (Array.getElem?_eq_some_iff.1 HX2.out).1).trans HX2.out); clear hb HIK)
        | (go_at_call 30; (with_reducible refine (HW2.out _ HT3.out hs3).mono ?_); rintro e w4 ⟨rfl, ht, hu, hs⟩; have HT4 := Lib.hid ht; have HU4 := Lib.hid (HU3.out.trans hu); have HF4 := Lib.hid (HF3.out.trans hs); have HX4 := Lib.hid (hs.keep _ _ _ _ HX3.out (by decide) HNE.out); have HB4 := Lib.hid (HB1.out.trans (HU4.out.below (Nat.le_refl _) (Nat.lt_succ_self _))); have r0 : w4.cell? ⟨wr.heap.size, 0, none⟩ = some (.int .i64 (p : Nat)) := cell_of_row _ _ 0 _ _ _ HX4.out; have r1 : w4.cell? ⟨wr.heap.size, 1, none⟩ = some (.int .i64 (k : Nat)) := cell_of_row _ _ 1 _ _ _ HX4.out; have nc := HNC.out _ HB4.out; have nl := HNB.out _ HB4.out; clear ht hu hs q1))
      go_quiet (fail)
      go_wp2
      go_roundg gh
      case measure => omega
      case rel =>
        have hbq := belN' w4 nq
        refine ⟨i + 1, by omega, by go_num, by rw [HEI.out]; go_num, Lib.hid ?_, Lib.hid (HU4.out.trans (BU.of_below hbq (Nat.le_trans HS1.out HU4.out.size))), Lib.hid (HF4.out.trans (SF.below hbq))⟩
        rw [← HOUT.out]
        exact TB.past (.inr HT4.out) hbq

end Go.Proofs.Ytjifekdjkjnefaa
