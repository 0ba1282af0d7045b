/- The document's Put: others stand in the points' place. -/
import Derived.Test.YtnkdbpbfapdfeaaDm
import Derived.Test.YtnkdbpbfapdfeaaFf
namespace Go.Proofs.Ytnkdbpbfapdfeaa
open Go.RowKit

/-- The points of a list of places, the eldest first. -/
def putR (l : List (Int × Int)) : List Tr := (l.zipIdx 1).foldl (fun acc p => insL (p.1.1, p.1.2, (p.2 : Int)) acc) []
theorem takeP_one (l : List (Int × Int)) (j : Nat) (h : j < l.length) : l.take (j + 1) = l.take j ++ [At l j] := by
  rw [List.take_succ_eq_append_getElem h]
  unfold At
  rw [List.getElem?_eq_getElem h]
  rfl
theorem putR_succ (l : List (Int × Int)) (i : Nat) (h : i < l.length) : putR (l.take (i + 1)) = insL ((At l i).1, (At l i).2, ((i : Int) + 1)) (putR (l.take i)) := by
  unfold putR
  rw [takeP_one l i h, List.zipIdx_append, List.foldl_append]
  have hl : (l.take i).length = i := by rw [List.length_take]; omega
  rw [hl]
  simp [List.zipIdx]
  congr 3
  omega
theorem putR_len (l : List (Int × Int)) : (putR l).length = l.length := by
  have : ∀ (z : List ((Int × Int) × Nat)) (acc : List Tr), (z.foldl (fun acc p => insL (p.1.1, p.1.2, (p.2 : Int)) acc) acc).length = acc.length + z.length := by
    intro z
    induction z with
    | nil => intro acc; simp
    | cons x z ih =>
      intro acc
      rw [List.foldl_cons, ih, insL_len, List.length_cons]
      omega
  unfold putR
  rw [this, List.length_zipIdx]
  simp
theorem QM.next {w : World} {M : Nat} {v : Value} {most next : Int} {L : List Tr} (h : QM w M v most next L) (x : Int) : QM (w.setCell ⟨M, 1, none⟩ (.int .i64 x)) M v most x L := by
  refine ⟨heap_setCell_same _ M 1 _ _ _ h.d, ?_⟩
  obtain ⟨A, c', e, hc, hf, hr⟩ := h.row
  exact ⟨A, c', e, hc, hf, hr.kept (KB.set (S := fun i => i = M) 1 _ rfl) h.np⟩
set_option maxRecDepth 100000 in
set_option maxHeartbeats 8000000 in
theorem rput_len {w : World} {M : Nat} {v : Value} {most next : Int} {L : List Tr} (h : QM w M v most next L) (A0 : Option Addr) (m c0 : Nat) (hm : m ≠ L.length) :
    Calls Try.prog 18 #[.pointer (some ⟨M, 0, none⟩), .slice A0 m c0] w fun e w' => e = .returned (.bool false) ∧ Below w.heap.size w w' := by
  obtain ⟨⟨m0, m1, m2⟩, mf⟩ := h.cells
  have hMl := h.lt
  obtain ⟨A, c, rfl, _⟩ := h.row
  have hne : ((m : Int) != (L.length : Int)) = true := by simp only [bne_iff_ne, ne_eq]; omega
  clear h
  go_enter Try.func18, Try.ntmps18
  go_wp2
  go_ret
  exact ⟨rfl, Below.refl _ _⟩
set_option maxRecDepth 100000 in
set_option maxHeartbeats 8000000 in
theorem rputs_any {w : World} {M : Nat} {v : Value} {most next : Int} {L : List Tr} (h : QM w M v most next L) (A0 : Option Addr) (l : List (Int × Int)) (c0 : Nat) (hm : l.length = L.length) (hl : L.length ≤ 1000) (hr : RPl w w.heap.size A0 l) (hb0 : ∀ b off, l ≠ [] → A0 = some ⟨b, off, none⟩ → b ≠ M) :
    Calls Try.prog 18 #[.pointer (some ⟨M, 0, none⟩), .slice A0 L.length c0] w fun e w' => e = .returned (.bool (allRight l)) ∧ ((allRight l = false ∧ Below w.heap.size w w') ∨ (allRight l = true ∧ QPost w M most l.length (putR l) w')) := by
  obtain ⟨⟨m0, m1, m2⟩, mf⟩ := h.cells
  have hMl := h.lt
  obtain ⟨A, c, rfl, _⟩ := h.row
  have HM := Lib.hid h
  have HR := Lib.hid hr
  have HLN := Lib.hid hm
  have HB0 := Lib.hid hb0
  have hne : ((L.length : Int) != (L.length : Int)) = false := by simp
  clear h hr hb0 hm
  go_enter Try.func18, Try.ntmps18
  go_wp2
  go_loopw [5] (fun q wr => ∃ i : Nat, q = .int .i64 i ∧ i ≤ L.length ∧ Hid (∀ j, j < i → (!okP (At l j).1 (At l j).2) = false) ∧ w = wr) (fun q _ => L.length - (intOf q).toNat)
  case atStart => exact ⟨0, rfl, Nat.zero_le _, Lib.hid (fun j hj => by omega), rfl⟩
  case round =>
    obtain ⟨i, rfl, hi, HOK, rfl⟩ := hrel
    by_cases hlt : i < L.length
    · have hii : (i : Int) < L.length := by omega
      obtain ⟨b, off, rfl, hG⟩ := HR.out.at (fun e => by have := HLN.out; rw [e] at this; simp at this; omega)
      obtain ⟨G0, GA⟩ := hG _ (Below.refl _ _)
      obtain ⟨z0, z1⟩ := GA i (by have := HLN.out; omega)
      have HNO := Lib.hid (allRight_not l i (by have := HLN.out; omega))
      have HYES : Hid (okP (At l i).1 (At l i).2 = true → ∀ j, j < i + 1 → (!okP (At l j).1 (At l j).2) = false) := Lib.hid fun he j hj => by
        rcases (by omega : j < i ∨ j = i) with h | rfl
        · exact HOK.out j h
        · rw [he]; rfl
      clear hG GA HOK
      generalize At l i = x at *
      cases h1 : num x.1 with
      | false =>
        have H1 := Lib.hid (refRight_as x.1 _ h1)
        have HA := Lib.hid (HNO.out (by unfold okP; rw [h1]; rfl))
        clear h1 HNO HYES
        go_wp2_with (go_at_call 23; (with_reducible refine (H1.out _).mono ?_); rintro e w' ⟨rfl, rfl⟩)
        go_ret
        exact ⟨by rw [HA.out]; rfl, .inl ⟨HA.out, Below.refl _ _⟩⟩
      | true =>
        cases h2 : num x.2 with
        | false =>
          have H1 := Lib.hid (refRight_as x.1 _ h1)
          have H2 := Lib.hid (refRight_as x.2 _ h2)
          have HA := Lib.hid (HNO.out (by unfold okP; rw [h2, Bool.and_false]; rfl))
          clear h1 h2 HNO HYES
          go_wp2_with (first
            | (go_at_call 23; (with_reducible refine (H1.out _).mono ?_); rintro e w' ⟨rfl, rfl⟩)
            | (go_at_call 23; (with_reducible refine (H2.out _).mono ?_); rintro e w' ⟨rfl, rfl⟩))
          go_ret
          exact ⟨by rw [HA.out]; rfl, .inl ⟨HA.out, Below.refl _ _⟩⟩
        | true =>
          have H1 := Lib.hid (refRight_as x.1 _ h1)
          have H2 := Lib.hid (refRight_as x.2 _ h2)
          have HA := Lib.hid (HYES.out (by unfold okP; rw [h1, h2]; rfl))
          clear h1 h2 HNO HYES
          go_wp2_with (first
            | (go_at_call 23; (with_reducible refine (H1.out _).mono ?_); rintro e w' ⟨rfl, rfl⟩)
            | (go_at_call 23; (with_reducible refine (H2.out _).mono ?_); rintro e w' ⟨rfl, rfl⟩))
          go_roundw
          case rel => exact ⟨i + 1, by go_num, hlt, HA, trivial⟩
          case measure => simp [intOf]; omega
    · obtain rfl : i = L.length := by omega
      have hii : ¬ (L.length : Int) < L.length := by omega
      have HALL := Lib.hid (allRight_of l (fun j hj => HOK.out j (by have := HLN.out; omega)))
      clear HOK
      have HWA : Hid (QM ((w.setCell ⟨M, 2, none⟩ (.slice none 0 0)).setCell ⟨M, 1, none⟩ (.int .i64 0)) M (.slice none 0 0) most 0 [] ∧ KB (fun i => i = M) w ((w.setCell ⟨M, 2, none⟩ (.slice none 0 0)).setCell ⟨M, 1, none⟩ (.int .i64 0))) := Lib.hid (by
        have h1 := (HM.out.renew (Below.refl _ _) (L1 := []) (A := none) (c := 0) (Nat.le_refl _) (.inl ⟨rfl, rfl⟩) (fun e => absurd rfl e)).2
        exact ⟨h1.1.next 0, h1.2.trans (KB.set (S := fun i => i = M) 1 _ rfl) fun _ _ e => e⟩)
      go_wp2
      have HM2 := Lib.hid HWA.out.1
      have HK2 := Lib.hid HWA.out.2
      clear HWA m0 m1 m2 mf HM
      generalize (w.setCell ⟨M, 2, none⟩ (.slice none 0 0)).setCell ⟨M, 1, none⟩ (.int .i64 0) = w2 at *
      go_loopw [6] (fun q wr => ∃ i : Nat, q = .int .i64 i ∧ i ≤ L.length ∧ Hid (∃ v', QM wr M v' most i (putR (l.take i))) ∧ Hid (KB (fun i => i = M) w2 wr)) (fun q _ => L.length - (intOf q).toNat)
      case atStart => exact ⟨0, rfl, Nat.zero_le _, Lib.hid ⟨_, HM2.out⟩, Lib.hid (KB.refl _ _)⟩
      case round =>
        obtain ⟨i, rfl, hi, HO, HKB⟩ := hrel
        by_cases hlt : i < L.length
        · have hii : (i : Int) < L.length := by omega
          obtain ⟨v', hq⟩ := HO.out
          obtain ⟨⟨m0, m1, m2⟩, mf⟩ := hq.cells
          have hMr := hq.lt
          have hw : IntKind.i64.wrap ((i : Int) + 1) = (i : Int) + 1 := by rw [IntKind.wrap_i64]; omega
          have hne2 : l ≠ [] := fun e => by have := HLN.out; rw [e] at this; simp at this; omega
          obtain ⟨b, off, rfl, hbl, hcell⟩ := HR.out hne2
          have hbM := HB0.out b off hne2 rfl
          have hkk : KB (fun i => i = M) w wr := HK2.out.trans HKB.out fun _ _ e => e
          have hkw : KB (fun i => i = M) w (wr.setCell ⟨M, 1, none⟩ (.int .i64 ((i : Int) + 1))) := hkk.trans (KB.set (S := fun i => i = M) 1 _ rfl) fun _ _ e => e
          have hcl : ∀ o, (wr.setCell ⟨M, 1, none⟩ (.int .i64 ((i : Int) + 1))).cell? ⟨b, o, none⟩ = w.cell? ⟨b, o, none⟩ := fun o => World.cell?_of_block (a := ⟨b, o, none⟩) (hkw.block b hbl hbM)
          have z0 := (hcl _).trans (hcell i (by have := HLN.out; omega)).1
          have z1 := (hcl _).trans (hcell i (by have := HLN.out; omega)).2
          have hbs := Nat.lt_of_lt_of_le hbl hkw.size
          have hq1 := hq.next ((i : Int) + 1)
          obtain ⟨⟨n0, n1, n2⟩, nf⟩ := hq1.cells
          have hMs := hq1.lt
          have hpl : (putR (l.take i)).length ≤ 1000 := by rw [putR_len, List.length_take]; omega
          have HPUT := Lib.hid (rput_any (hq1.past (Below.refl _ _).drew) ((At l i).1, (At l i).2, (i : Int) + 1) (by omega))
          have HN := Lib.hid (putR_succ l i (by have := HLN.out; omega))
          have HKW : Hid (KB (fun i => i = M) w2 (wr.setCell ⟨M, 1, none⟩ (.int .i64 ((i : Int) + 1)))) := Lib.hid (HKB.out.trans (KB.set (S := fun i => i = M) 1 _ rfl) fun _ _ e => e)
          clear hq hq1 hcl hkk hkw hpl HO hcell hne2
          have hx : l[i]?.getD (0, 0) = At l i := rfl
          rw [hx] at z0 z1
          clear hx
          generalize At l i = x at *
          go_wp2_with fail
          generalize wr.setCell ⟨M, 1, none⟩ (.int .i64 ((i : Int) + 1)) = w5 at *
          go_still_tail 10, (by kernel_rfl)
          change wpList _ _ _ _ _ w5.drew
          go_wp2_with (go_at_call 33; (with_reducible refine (HPUT.out).mono ?_); rintro e w6 ⟨rfl, hq6⟩; have HQ6 := Lib.hid hq6; clear hq6)
          go_roundw
          case rel => exact ⟨i + 1, by go_num, hlt, Lib.hid (by rw [HN.out]; obtain ⟨v6, h6, _⟩ := HQ6.out; exact ⟨v6, h6⟩), Lib.hid (by obtain ⟨v6, _, h6⟩ := HQ6.out; exact (HKW.out.trans (KB.of_below (S := fun _ => False) (Below.refl _ _).drew) fun _ _ e => e.elim).trans h6 fun _ _ e => e)⟩
          case measure => simp [intOf]; omega
        · obtain rfl : i = L.length := by omega
          have hii : ¬ (L.length : Int) < L.length := by omega
          have HF : Hid (QPost w M most l.length (putR l) wr) := Lib.hid (by
            obtain ⟨v', hq⟩ := HO.out
            rw [List.take_of_length_le (by have := HLN.out; omega)] at hq
            rw [HLN.out]
            exact ⟨v', hq, HK2.out.trans HKB.out fun _ _ e => e⟩)
          clear HO HKB
          go_wp2
          go_ret
          exact ⟨by rw [HALL.out]; rfl, .inr ⟨HALL.out, HF.out⟩⟩
end Go.Proofs.Ytnkdbpbfapdfeaa
