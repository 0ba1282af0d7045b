/- The walk of the law ParamBack. -/
import Derived.Test.YtjhcjdkbichabaaDoorQd
namespace Go.Proofs.YtjhcjdkbichabaaDoor
open Go.RowKit

def colT (j : Nat) : List UInt8 := if 0 < j then [58] else []
def partT (r : List Int) : List UInt8 := (r.zipIdx.map fun p => colT p.2 ++ numT p.1).flatten
theorem partT_snoc (r : List Int) (z : Int) : partT (r ++ [z]) = partT r ++ colT r.length ++ numT z := by
  simp [partT, List.zipIdx_append]
theorem rowT_part (i : Nat) (r : List Int) : r ≠ [] → rowT i r = sepT i 0 ++ partT r := by
  refine snoc_ind (P := fun r => r ≠ [] → rowT i r = sepT i 0 ++ partT r) (fun h => absurd rfl h) (fun r z ih _ => ?_) r
  rw [rowT_snoc, partT_snoc]
  cases r with
  | nil => simp [rowT, partT, colT]
  | cons v t =>
    have e1 : sepT i (v :: t).length = [58] := if_pos (by simp)
    have e2 : colT (v :: t).length = [58] := if_pos (by simp)
    rw [ih (by simp), e1, e2]
    simp
theorem partT_len (r : List Int) : (∀ z ∈ r, (numT z).length ≤ 21) → (partT r).length ≤ r.length * 22 := by
  refine snoc_ind (P := fun r => (∀ z ∈ r, (numT z).length ≤ 21) → (partT r).length ≤ r.length * 22) (fun _ => by simp [partT]) (fun r z ih h => ?_) r
  rw [partT_snoc]
  simp only [List.length_append, List.length_singleton]
  have : (colT r.length).length ≤ 1 := by unfold colT; split <;> simp
  have := h z (by simp)
  have := ih (fun z hz => h z (by simp [hz]))
  omega
/-- What the rows read as. -/
def GridAt (w : World) (b off n : Nat) (L : List (List Int)) : Prop :=
  ∀ k, k < n → ∃ br offr ci, ∀ W, Below w.heap.size w W → W.cell? ⟨b, off + k, none⟩ = some (.slice (some ⟨br, offr, none⟩) (L[k]?.getD []).length ci) ∧ ∀ j, j < (L[k]?.getD []).length → W.cell? ⟨br, offr + j, none⟩ = some (.int .i64 ((L[k]?.getD [])[j]?.getD 0))
theorem grid_at {w : World} {A : Option Addr} {L : List (List Int)} (h : RG w w.heap.size A L) (hne : L ≠ []) (hr : ∀ r ∈ L, r ≠ []) : ∃ b off, A = some ⟨b, off, none⟩ ∧ GridAt w b off L.length L := by
  obtain ⟨b, off, rfl, hb, hc⟩ := h hne
  refine ⟨b, off, rfl, fun k hk => ?_⟩
  obtain ⟨Ai, ci, h1, h2, h3⟩ := hc k hk
  have hl := hr (L[k]?.getD []) (by rw [List.getElem?_eq_getElem hk]; exact List.getElem_mem hk)
  obtain ⟨br, offr, rfl, hbr, hcr⟩ := h2 hl
  exact ⟨br, offr, ci, fun W hW => ⟨(hW.cell (p := ⟨b, off + k, none⟩) hb).trans h1, fun j hj => (hW.cell (p := ⟨br, offr + j, none⟩) hbr).trans (hcr j hj)⟩⟩
theorem bsB_one (T : List UInt8) (x : UInt8) : bsB T ++ (⟨#[x]⟩ : ByteArray) = bsB (T ++ [x]) := bsB_app T [x]
set_option maxRecDepth 100000 in
set_option maxHeartbeats 8000000 in
theorem paramBack_law (A : Option Addr) (l : List (List Int)) (n cp : Nat) (hn : n = l.length) (hcap : n ≤ cp) (w : World) (hT : PT w) (hT10 : T10 w.heap.size w) (hR : RG w w.heap.size A l) :
    Calls Tryd.prog 5 #[.slice A n cp] w fun e w' => e = .returned (.bool true) ∧ Below w.heap.size w w' := by
  have HA : Hid (∀ W, Below w.heap.size w W → Calls Tryd.prog 8 #[] W fun e w' => e = .returned (.bool true) ∧ Below W.heap.size W w') := Lib.hid fun W hW => awake_any W (hT.below hW)
  have HG := Lib.hid (great_any A l n cp hn w hR)
  cases hg : greatB l with
  | true =>
    rw [hg] at HG
    clear hT hR hg hn hT10
    go_enter Tryd.func5, Tryd.ntmps5
    go_wp2_with (first
      | (go_at_call 12; (with_reducible refine HG.out.mono ?_); rintro e w' ⟨rfl, rfl⟩)
      | (go_at_call 8; (with_reducible refine (HA.out _ (Below.refl _ _)).mono ?_); rintro e w2 ⟨rfl, hb2⟩))
    go_ret
    exact ⟨rfl, hb2⟩
  | false =>
    rw [hg] at HG
    obtain ⟨h60, h20⟩ := great_no hg
    have hrow : ∀ r ∈ l, r.length ≤ 1000 := fun r hr => by have := h20 r hr; omega
    have hlen := cleanL_len l
    have hall := cleanL_all l
    have hne : cleanL l ≠ [] := fun e => by rw [e] at hlen; simp at hlen
    have hrne : ∀ r ∈ cleanL l, r ≠ [] := fun r hr => (hall r hr).1
    have HTXT : Hid (Calls Tryd.prog 15 #[.slice A n cp] w fun e w' => e = .returned (.string (bsB (textT (cleanL l)))) ∧ Below w.heap.size w w') := Lib.hid (text_any A l n cp hn hcap (by omega) hrow w hR hT10)
    have HD : Hid (∀ W, Below w.heap.size w W → Calls Tryd.prog 14 #[.slice A n cp] W (RowsPost (cleanL l) W)) := Lib.hid fun W hW => refClean_any A l n cp hn (by omega) hrow W ((hR.below hW).more hW.size)
    clear hg hn h60 h20 hrow hcap hR hT10
    generalize cleanL l = L at *
    have hnum : ∀ r ∈ L, ∀ z ∈ r, (numT z).length ≤ 21 := fun r hr z hz => itoa_len z (by have := (hall r hr).2.2 z hz; omega) (by have := (hall r hr).2.2 z hz; omega)
    have htl : ∀ k, (textT (L.take k)).length ≤ 6000 := fun k => by
      have := textT_len (L.take k) (fun r hr => ⟨(hall r (List.mem_of_mem_take hr)).2.1, hnum r (List.mem_of_mem_take hr)⟩)
      rw [List.length_take] at this
      omega
    have htl0 : (textT L).length ≤ 6000 := by have := htl L.length; rwa [List.take_length] at this
    have HP : Hid (∀ W, Below w.heap.size w W → Calls Tryd.prog 9 #[.string (bsB (textT L))] W fun e w' => ∃ A c, e = .returned (.tuple #[.slice A L.length c, .bool true]) ∧ RG w' w'.heap.size A L ∧ Below W.heap.size W w') := Lib.hid fun W hW => by
      have hl : (bsB (textT L)).data.toList = textB L := by rw [← textT_textB L hrne]; simp [bsB]
      refine (hT.below hW).yes (bsB (textT L)) (by rw [bsB_size]; omega) ?_ L ?_
      · rw [hl]; exact text_head L (fun r hr z hz => ((hall r hr).2.2 z hz).1)
      · rw [hl]; exact text_groups L hne hlen.2 hall
    have HS : Hid (∀ W A A' c c', RG W W.heap.size A L → RG W W.heap.size A' L → Calls Tryd.prog 11 #[.slice A L.length c, .slice A' L.length c'] W fun e w' => e = .returned (.bool true) ∧ Below W.heap.size W w') := Lib.hid fun W A A' c c' h1 h2 => by
      have := same_any A A' L L _ _ c c' rfl rfl (by omega) (fun i => by
        cases h : L[i]? with
        | none => simp
        | some r =>
          have := (hall r (List.mem_of_getElem? h)).2.1
          simp
          omega) W h1 h2
      rw [show sameL L L = true from decide_eq_true rfl] at this
      exact this
    have HGRID : Hid (∀ W A, RG W W.heap.size A L → ∃ b off, A = some ⟨b, off, none⟩ ∧ GridAt W b off L.length L) := Lib.hid fun W A h => grid_at h hne hrne
    have HROW : Hid (∀ k, k < L.length → L[k]?.getD [] ≠ [] ∧ (L[k]?.getD []).length ≤ 8 ∧ (∀ z ∈ L[k]?.getD [], -1 ≤ z ∧ z ≤ 65535) ∧ textT (L.take (k + 1)) = textT (L.take k) ++ sepT k 0 ++ partT (L[k]?.getD [])) := Lib.hid fun k hk => by
      have hm : L[k]?.getD [] ∈ L := by rw [List.getElem?_eq_getElem hk]; exact List.getElem_mem hk
      refine ⟨hrne _ hm, (hall _ hm).2.1, (hall _ hm).2.2, ?_⟩
      rw [take_snocL L k [] hk, textT_snoc, accT, List.length_take, Nat.min_eq_left (by omega), rowT_part _ _ (hrne _ hm), List.append_assoc]
    have HTL := Lib.hid htl
    have HTAKE : Hid (textT (L.take L.length) = textT L) := Lib.hid (by rw [List.take_length])
    have HTB : Hid (∀ S, S = bsB (textT (L.take L.length)) → S = bsB (textT L)) := Lib.hid fun S h => by rw [h, HTAKE.out]
    have hm32 := hlen.2
    unfold RowsPost at HD
    clear hT hlen hall hne hrne hnum htl htl0 HTAKE
    generalize hTB : bsB (textT L) = TB at *
    clear hTB
    generalize L.length = m at *
    go_enter Tryd.func5, Tryd.ntmps5
    go_upto_region 8 with (first
      | (go_at_call 12; (with_reducible refine HG.out.mono ?_); rintro e w' ⟨rfl, rfl⟩)
      | (go_at_call 15; (with_reducible refine HTXT.out.mono ?_); rintro e w1 ⟨rfl, hb1⟩; have HB1 := Lib.hid hb1; clear hb1)
      | (go_at_call 9; (with_reducible refine (HP.out _ HB1.out).mono ?_); rintro e w2 ⟨A2, c2, rfl, hr2, hb2⟩; have HR2 := Lib.hid hr2; have HB2 := Lib.hid (bel0 HB1.out hb2); clear hr2 hb2)
      | (go_at_call 14; (with_reducible refine (HD.out _ HB2.out).mono ?_); rintro e w3 ⟨A3, c3, rfl, _, hr3, hb3⟩; have HR3 := Lib.hid hr3; have HR23 := Lib.hid (HR2.out.past hb3); have HB3 := Lib.hid (bel0 HB2.out hb3); clear hr3 hb3))
    obtain ⟨b, off, rfl, hgrid⟩ := HGRID.out w3 A3 HR3.out
    have HH := Lib.hid hgrid
    clear hgrid HGRID HD HTXT HP HG
    go_loopw [6, 8] (fun s6 ii wr => ∃ (k : Nat) (S : ByteArray), k ≤ m ∧ s6 = .string S ∧ ii = .int .i64 k ∧ Hid (S = bsB (textT (L.take k))) ∧ Hid (Below w3.heap.size w3 wr)) (fun _ ii _ => m - (intOf ii).toNat)
    case atStart => exact ⟨0, _, Nat.zero_le _, rfl, rfl, Lib.hid rfl, Lib.hid (Below.refl _ _)⟩
    case round =>
      obtain ⟨k, S, hk, rfl, rfl, HSS, HBW⟩ := hrel
      by_cases hlt : k < m
      · have hkm : (k : Int) < m := by omega
        obtain ⟨br, offr, ci, hcx⟩ := HH.out k hlt
        obtain ⟨hr0, hr8, hrv, hnx⟩ := HROW.out k hlt
        have htk := HTL.out k
        have HRV := Lib.hid hrv
        have HCX := Lib.hid hcx
        obtain ⟨TN, hTN⟩ : ∃ TN, textT (L.take (k + 1)) = TN := ⟨_, rfl⟩
        rw [hTN] at hnx
        have HTE := Lib.hid hTN
        have HNX := Lib.hid hnx
        clear hnx hr0 hrv hcx hTN
        generalize textT (L.take k) = TK at *
        generalize L[k]?.getD [] = r at *
        obtain ⟨q, hq⟩ : ∃ q, r.length = q := ⟨_, rfl⟩
        have HQ := Lib.hid hq
        rw [hq] at hr8
        have HC1 : Hid (∀ W, Below w3.heap.size w3 W → W.cell? ⟨b, off + k, none⟩ = some (.slice (some ⟨br, offr, none⟩) q ci)) := Lib.hid fun W hW => by rw [← HQ.out]; exact (HCX.out W hW).1
        have HC2 : Hid (∀ W, Below w3.heap.size w3 W → ∀ j, j < q → W.cell? ⟨br, offr + j, none⟩ = some (.int .i64 (r[j]?.getD 0))) := Lib.hid fun W hW => by rw [← HQ.out]; exact (HCX.out W hW).2
        have hsepl := sepT_len k 0
        clear hq HCX
        go_upto_if 29 with fail
        go_cut [6] (fun s6 wx => ∃ S, s6 = .string S ∧ Hid (S = bsB (TK ++ sepT k 0)) ∧ wr = wx)
        case first =>
          have hSz : S.size ≤ 6000 := by rw [HSS.out, bsB_size]; exact htk
          by_cases hk0 : k = 0
          · have hd1 : decide ((k : Int) > 0) = false := decide_eq_false (by omega)
            have hd1n : decide (0 < k) = false := decide_eq_false (by omega)
            have HF : Hid (S = bsB (TK ++ sepT k 0)) := Lib.hid (by rw [HSS.out, sepT, if_neg (by omega), if_neg (by omega), List.append_nil])
            clear HSS hk0 hd1
            simp only [hd1n]
            go_wp2
            go_meet
            exact ⟨_, rfl, HF, rfl⟩
          · have hd1 : decide ((k : Int) > 0) = true := decide_eq_true (by omega)
            have hd1n : decide (0 < k) = true := decide_eq_true (by omega)
            have HF : Hid (S ++ (⟨#[59]⟩ : ByteArray) = bsB (TK ++ sepT k 0)) := Lib.hid (by rw [HSS.out, sepT, if_neg (by omega), if_pos (by omega), bsB_one])
            clear HSS hk0 hd1
            simp only [hd1n]
            go_wp2
            go_meet
            exact ⟨_, rfl, HF, rfl⟩
        case rest =>
          obtain ⟨S2, rfl, HS2, rfl⟩ := hcut
          go_wp2
          go_loopw [6, 9] (fun s6 jj wr => ∃ (j : Nat) (S : ByteArray), j ≤ q ∧ s6 = .string S ∧ jj = .int .i64 j ∧ Hid (S = bsB (TK ++ sepT k 0 ++ partT (r.take j))) ∧ Hid (Below w3.heap.size w3 wr)) (fun _ jj _ => q - (intOf jj).toNat)
          case atStart => exact ⟨0, _, Nat.zero_le _, rfl, rfl, Lib.hid (by rw [HS2.out]; simp [partT]), HBW⟩
          case round =>
            clear HBW HSS HS2
            obtain ⟨j, S, hj, rfl, rfl, HSS, HBW⟩ := hrel
            have hcr := HC1.out _ HBW.out
            by_cases hjt : j < q
            · have hjq : (j : Int) < q := by omega
              have hcj := HC2.out _ HBW.out j hjt
              have hjr : j < r.length := by have := HQ.out; omega
              have hx := HRV.out (r[j]?.getD 0) (by rw [List.getElem?_eq_getElem hjr]; exact List.getElem_mem hjr)
              have HPN : Hid (partT (r.take (j + 1)) = partT (r.take j) ++ colT j ++ numT (r[j]?.getD 0)) := Lib.hid (by rw [take_snocL r j 0 hjr, partT_snoc, List.length_take, Nat.min_eq_left (by omega)])
              have hpl := partT_len (r.take j) (fun z hz => itoa_len z (by have := HRV.out z (List.mem_of_mem_take hz); omega) (by have := HRV.out z (List.mem_of_mem_take hz); omega))
              rw [List.length_take] at hpl
              have hSz : S.size ≤ 7000 := by
                rw [HSS.out, bsB_size]
                simp only [List.length_append]
                omega
              generalize r[j]?.getD 0 = x at *
              obtain ⟨PN, hPN⟩ : ∃ PN, partT (r.take (j + 1)) = PN := ⟨_, rfl⟩
              rw [hPN] at HPN
              have HPE := Lib.hid hPN
              clear hPN
              generalize partT (r.take j) = PJ at *
              obtain ⟨hx0, hx1⟩ := hx
              clear hpl
              by_cases hj0 : 0 < j
              · have hd1 : decide ((j : Int) > 0) = true := decide_eq_true (by omega)
                have hd1n : decide (0 < j) = true := decide_eq_true (by omega)
                have HC : Hid (colT j = [58]) := Lib.hid (by rw [colT, if_pos hj0])
                by_cases hxx : 0 ≤ x
                · have hd2 : decide (x ≥ 0) = true := decide_eq_true hxx
                  obtain ⟨u, rfl⟩ := Int.eq_ofNat_of_zero_le hxx
                  have HDG : Hid (∀ W, Calls Tryd.prog 16 #[.int .i64 u] W fun e w' => e = .returned (.string (bsB (Lib.decDigits u))) ∧ Below W.heap.size W w') := Lib.hid fun W => digits_any u (by omega) W
                  have hDl : (bsB (Lib.decDigits u)).size ≤ 21 := by
                    have := Lib.itoa_length_le (u : Int) (by omega) (by omega)
                    rw [Lib.itoa, if_neg (by omega), Int.toNat_natCast] at this
                    rwa [bsB_size]
                  have HF : Hid (S ++ (⟨#[58]⟩ : ByteArray) ++ bsB (Lib.decDigits u) = bsB (TK ++ sepT k 0 ++ PN)) := Lib.hid (by rw [HPN.out, HC.out, numT, if_neg (by omega), Lib.itoa, if_neg (by omega), Int.toNat_natCast, HSS.out, bsB_one, bsB_app]; simp only [List.append_assoc])
                  generalize bsB (Lib.decDigits u) = DG at *
                  clear HSS HPN HC hxx
                  go_wp2_with (go_at_call 16; (with_reducible refine (HDG.out _).mono ?_); rintro e w4 ⟨rfl, hb4⟩; have HB4 := Lib.hid (bel0 HBW.out hb4); clear hb4)
                  go_roundw
                  case rel => exact ⟨j + 1, _, hjt, rfl, by go_num, by rw [HPE.out]; exact HF, HB4⟩
                  case measure => simp [intOf]; omega
                · have hd2 : decide (x ≥ 0) = false := decide_eq_false (by omega)
                  have HF : Hid (S ++ (⟨#[58]⟩ : ByteArray) = bsB (TK ++ sepT k 0 ++ PN)) := Lib.hid (by rw [HPN.out, HC.out, numT, if_pos (by omega), HSS.out, bsB_one, List.append_nil]; simp only [List.append_assoc])
                  clear HSS HPN HC hxx
                  go_wp2
                  go_roundw
                  case rel => exact ⟨j + 1, _, hjt, rfl, by go_num, by rw [HPE.out]; exact HF, HBW⟩
                  case measure => simp [intOf]; omega
              · have hd1 : decide ((j : Int) > 0) = false := decide_eq_false (by omega)
                have hd1n : decide (0 < j) = false := decide_eq_false (by omega)
                have HC : Hid (colT j = []) := Lib.hid (by rw [colT, if_neg hj0])
                by_cases hxx : 0 ≤ x
                · have hd2 : decide (x ≥ 0) = true := decide_eq_true hxx
                  obtain ⟨u, rfl⟩ := Int.eq_ofNat_of_zero_le hxx
                  have HDG : Hid (∀ W, Calls Tryd.prog 16 #[.int .i64 u] W fun e w' => e = .returned (.string (bsB (Lib.decDigits u))) ∧ Below W.heap.size W w') := Lib.hid fun W => digits_any u (by omega) W
                  have hDl : (bsB (Lib.decDigits u)).size ≤ 21 := by
                    have := Lib.itoa_length_le (u : Int) (by omega) (by omega)
                    rw [Lib.itoa, if_neg (by omega), Int.toNat_natCast] at this
                    rwa [bsB_size]
                  have HF : Hid (S ++ bsB (Lib.decDigits u) = bsB (TK ++ sepT k 0 ++ PN)) := Lib.hid (by rw [HPN.out, HC.out, numT, if_neg (by omega), Lib.itoa, if_neg (by omega), Int.toNat_natCast, HSS.out, bsB_app, List.append_nil]; simp only [List.append_assoc])
                  generalize bsB (Lib.decDigits u) = DG at *
                  clear HSS HPN HC hxx
                  go_wp2_with (go_at_call 16; (with_reducible refine (HDG.out _).mono ?_); rintro e w4 ⟨rfl, hb4⟩; have HB4 := Lib.hid (bel0 HBW.out hb4); clear hb4)
                  go_roundw
                  case rel => exact ⟨j + 1, _, hjt, rfl, by go_num, by rw [HPE.out]; exact HF, HB4⟩
                  case measure => simp [intOf]; omega
                · have hd2 : decide (x ≥ 0) = false := decide_eq_false (by omega)
                  have HF : Hid (S = bsB (TK ++ sepT k 0 ++ PN)) := Lib.hid (by rw [HPN.out, HC.out, numT, if_pos (by omega), HSS.out, List.append_nil, List.append_nil])
                  clear HSS HPN HC hxx
                  go_wp2
                  go_roundw
                  case rel => exact ⟨j + 1, _, hjt, rfl, by go_num, by rw [HPE.out]; exact HF, HBW⟩
                  case measure => simp [intOf]; omega
            · obtain rfl : j = q := by omega
              have HF : Hid (S = bsB TN) := Lib.hid (by rw [HSS.out, HNX.out, List.take_of_length_le (by have := HQ.out; omega)])
              clear HSS HNX
              go_wp2
              go_roundw
              case rel => exact ⟨k + 1, _, hlt, rfl, by go_num, by rw [HTE.out]; exact HF, HBW⟩
              case measure => simp [intOf]; omega
      · obtain rfl : k = m := by omega
        have HF := Lib.hid (HTB.out S HSS.out)
        have hS := HF.out
        subst hS
        clear HSS HTB HF HTL HROW HH
        have HBX := Lib.hid (bel0 HB3.out HBW.out)
        have HRX := Lib.hid ((HR3.out.below HBW.out).more HBW.out.size)
        have HRY := Lib.hid ((HR23.out.below HBW.out).more HBW.out.size)
        clear HBW HR3 HR23 HR2 HB1 HB2 HB3
        go_wp2_with (first
          | (go_at_call 11; (with_reducible refine (HS.out _ _ _ _ _ HRY.out HRX.out).mono ?_); rintro e w7 ⟨rfl, hb7⟩; have HB7 := Lib.hid (bel0 HBX.out hb7); clear hb7)
          | (go_at_call 8; (with_reducible refine (HA.out _ HB7.out).mono ?_); rintro e w8 ⟨rfl, hb8⟩; have HB8 := Lib.hid (bel0 HB7.out hb8); clear hb8))
        go_ret
        exact ⟨rfl, HB8.out⟩

end Go.Proofs.YtjhcjdkbichabaaDoor
