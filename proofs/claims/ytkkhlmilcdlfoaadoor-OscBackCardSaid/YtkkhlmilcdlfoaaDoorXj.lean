/- The walk of the document's File. -/
import Derived.Test.YtkkhlmilcdlfoaaDoorXi
namespace Go.Proofs.YtkkhlmilcdlfoaaDoor
open Go.RowKit

def upF : List UInt8 := [70, 73, 76, 69, 58, 47, 47]
/-- What the document's File answers. -/
def refFileV (l : List UInt8) : Value := match fileL l with
  | some (h, p) => .tuple #[.string (bsB h), .string (bsB p), .bool true]
  | none => .tuple #[.string ⟨#[]⟩, .string ⟨#[]⟩, .bool false]
theorem up_ok0 : (List.range 7).all (fun k => (List.range 256).all fun c => okF (UInt8.ofNat c) (lowF.getD k 0) == (UInt8.ofNat c == lowF.getD k 0 || UInt8.ofNat c == upF.getD k 0)) = true := by decide +kernel
theorem up_ok (k : Nat) (hk : k < 7) (c : UInt8) : okF c (lowF.getD k 0) = (c == lowF.getD k 0 || c == upF.getD k 0) := by
  have h := List.all_eq_true.1 (List.all_eq_true.1 up_ok0 k (List.mem_range.2 hk)) c.toNat (List.mem_range.2 c.toNat_lt)
  simpa using h
theorem upF_at (k : Nat) (h : k < 7) : upF[k]? = some (upF.getD k 0) := by
  rcases (by omega : k = 0 ∨ k = 1 ∨ k = 2 ∨ k = 3 ∨ k = 4 ∨ k = 5 ∨ k = 6) with rfl | rfl | rfl | rfl | rfl | rfl | rfl <;> decide
theorem file_slash {l : List UInt8} {k : Nat} (h7 : 7 ≤ k) (hf : foldB (l.take 7) = true) (h : l[k]? = some 47) (hn : ∀ j, 7 ≤ j → j < k → l[j]? ≠ some 47) : fileL l = some ((l.drop 7).take (k - 7), takeL (l.drop k)) := by
  have hk : k < l.length := (List.getElem?_eq_some_iff.1 h).1
  have hi : (l.drop 7).idxOf? 47 = some (k - 7) := idx_first (by rw [List.getElem?_drop, show 7 + (k - 7) = k by omega]; exact h) (fun j hj => by rw [List.getElem?_drop]; exact hn (7 + j) (by omega) (by omega))
  unfold fileL
  rw [if_pos ⟨by omega, hf⟩, hi]
  show some (_, takeL ((l.drop 7).drop (k - 7))) = _
  rw [List.drop_drop, show 7 + (k - 7) = k by omega]
theorem file_never {l : List UInt8} (hn : ∀ j, 7 ≤ j → j < l.length → l[j]? ≠ some 47) : fileL l = none := by
  unfold fileL
  by_cases h : 7 ≤ l.length ∧ foldB (l.take 7) = true
  · rw [if_pos h]
    have hi : (l.drop 7).idxOf? 47 = none := idx_never (fun j hj => by rw [List.getElem?_drop]; exact hn (7 + j) (by omega) (by rw [List.length_drop] at hj; omega))
    rw [hi]
  · rw [if_neg h]
theorem file_other {l : List UInt8} {k : Nat} (hk : k < 7) (h : okF (l.getD k 0) (lowF.getD k 0) = false) : fileL l = none := by
  unfold fileL
  rw [if_neg]
  rintro ⟨_, h2⟩
  rw [foldB_no (l.take 7) k hk (by rw [List.getD_eq_getElem?_getD, List.getElem?_take, if_pos hk, ← List.getD_eq_getElem?_getD]; exact h)] at h2
  cases h2
theorem fold_take (l : List UInt8) (h : ∀ k, k < 7 → okF (l.getD k 0) (lowF.getD k 0) = true) : foldB (l.take 7) = true :=
  foldB_yes _ fun k hk => by rw [List.getD_eq_getElem?_getD, List.getElem?_take, if_pos hk, ← List.getD_eq_getElem?_getD]; exact h k hk
set_option maxRecDepth 100000 in
set_option maxHeartbeats 4000000 in
theorem refFile_any (l : List UInt8) (hl : l.length ≤ 10000) (w : World) : Calls Tryd.prog 28 #[.string (bsB l)] w fun e w' => e = .returned (refFileV l) ∧ Below w.heap.size w w' := by
  have hsz : ((bsB l).size : Int) = l.length := by rw [bsB_size]
  have HI := Lib.hid (idx_bs l)
  have HI2 : Hid (∀ k : Nat, k < 7 → ∀ W, (Instr.index 9 (.string ⟨#[102, 105, 108, 101, 58, 47, 47]⟩) (.int .i64 k)).run Tryd.prog W = .ok (.int .u8 (lowF.getD k 0).toNat) W) := Lib.hid fun k hk => idx_bs lowF k _ (lowF_at k hk).1
  have HI3 : Hid (∀ k : Nat, k < 7 → ∀ W, (Instr.index 9 (.string ⟨#[70, 73, 76, 69, 58, 47, 47]⟩) (.int .i64 k)).run Tryd.prog W = .ok (.int .u8 (upF.getD k 0).toNat) W) := Lib.hid fun k hk => idx_bs upF k _ (upF_at k hk)
  have HX : Hid (∀ k : Nat, (bsB l).extract k (bsB l).size = bsB (l.drop k)) := Lib.hid fun k => by rw [bs_extract, bsB_size, List.take_of_length_le (by simp)]
  have HX2 : Hid (∀ k : Nat, (bsB l).extract 7 k = bsB ((l.drop 7).take (k - 7))) := Lib.hid fun k => bs_extract l 7 k
  have HT := Lib.hid fun (W : World) (k : Nat) => refTake_any (l.drop k) (by rw [List.length_drop]; omega) W
  obtain ⟨fv, hfv⟩ : ∃ v, v = refFileV l := ⟨_, rfl⟩
  rw [← hfv]
  have HNONE : Hid (fileL l = none → fv = .tuple #[.string ⟨#[]⟩, .string ⟨#[]⟩, .bool false]) := Lib.hid fun h => by rw [hfv]; unfold refFileV; rw [h]
  have HSOME : Hid (∀ a b, fileL l = some (a, b) → fv = .tuple #[.string (bsB a), .string (bsB b), .bool true]) := Lib.hid fun a b h => by rw [hfv]; unfold refFileV; rw [h]
  have hl10 := hl
  clear hfv hl
  by_cases h7 : l.length < 7
  · have HR := Lib.hid (HNONE.out (by unfold fileL; rw [if_neg (by omega)]))
    generalize bsB l = t at *
    generalize l.length = m at *
    go_enter Tryd.func28, Tryd.ntmps28
    go_wp2
    exact bodyPost_ret (v := .tuple #[.string ⟨#[]⟩, .string ⟨#[]⟩, .bool false]) (by simp [results, Tryd.results28, go_sem]) rfl ⟨by rw [HR.out], Below.refl _ _⟩
  · have h7' : 7 ≤ l.length := by omega
    go_enter Tryd.func28, Tryd.ntmps28
    go_wp2
    go_loopw [7] (fun q wr => ∃ i : Nat, q = .int .i64 i ∧ i ≤ 7 ∧ Hid (Below w.heap.size w wr) ∧ Hid (∀ k, k < i → okF (l.getD k 0) (lowF.getD k 0) = true)) (fun q _ => 7 - (intOf q).toNat)
    case atStart => exact ⟨0, rfl, by omega, Lib.hid (Below.refl _ _), Lib.hid (fun k hk => by omega)⟩
    case round =>
      obtain ⟨i, rfl, hi, HB, HK⟩ := hrel
      by_cases hlt : i < 7
      · have j1 := HI.out i (l.getD i 0) (by rw [List.getD_eq_getElem?_getD, List.getElem?_eq_getElem (by omega)]; rfl)
        have j2 := HI2.out i hlt
        have j3 := HI3.out i hlt
        have hok := up_ok i hlt (l.getD i 0)
        have hil : (i : Int) < l.length := by omega
        have HNOi : Hid (okF (l.getD i 0) (lowF.getD i 0) = false → fv = .tuple #[.string ⟨#[]⟩, .string ⟨#[]⟩, .bool false]) := Lib.hid fun h => HNONE.out (file_other hlt h)
        have HKi : Hid (okF (l.getD i 0) (lowF.getD i 0) = true → ∀ k, k < i + 1 → okF (l.getD k 0) (lowF.getD k 0) = true) := Lib.hid fun h k hk => by
          rcases (by omega : k < i ∨ k = i) with h1 | rfl
          · exact HK.out k h1
          · exact h
        generalize lowF.getD i 0 = t at *
        generalize upF.getD i 0 = u at *
        generalize l.getD i 0 = c at *
        have hcases : (c = t ∧ okF c t = true) ∨ (c ≠ t ∧ c = u ∧ okF c t = true) ∨ (c ≠ t ∧ c ≠ u ∧ okF c t = false) := by
          by_cases h1 : c = t
          · exact .inl ⟨h1, by rw [hok, beq_iff_eq.2 h1]; rfl⟩
          · by_cases h2 : c = u
            · exact .inr (.inl ⟨h1, h2, by rw [hok, beq_iff_eq.2 h2]; simp⟩)
            · exact .inr (.inr ⟨h1, h2, by rw [hok, beq_false_of_ne h1, beq_false_of_ne h2]; rfl⟩)
        clear hok
        rcases hcases with ⟨h1, h2⟩ | ⟨h1, h2, h3⟩ | ⟨h1, h2, h3⟩
        · have HK2 := Lib.hid (HKi.out h2)
          subst h1
          clear HKi HNOi HK h2 h7
          generalize c.toNat = cn at *
          generalize u.toNat = un at *
          generalize bsB l = s at *
          generalize l.length = m at *
          go_wp2
          go_region
          simp only [Exit.then]
          go_wp2
          go_roundw
          case rel => exact ⟨i + 1, by go_num, hlt, Lib.hid HB.out.drew, HK2⟩
          case measure => simp [intOf]; omega
        · have HK2 := Lib.hid (HKi.out h3)
          have hne : ((u.toNat : Int) != t.toNat) = true := by
            have : u.toNat ≠ t.toNat := fun e => h1 (by rw [h2]; exact UInt8.toNat_inj.1 e)
            simp; omega
          subst h2
          clear HKi HNOi HK h3 h7 h1
          generalize c.toNat = cn at *
          generalize t.toNat = un at *
          generalize bsB l = s at *
          generalize l.length = m at *
          go_wp2
          go_region
          simp only [Exit.then]
          go_wp2
          go_roundw
          case rel => exact ⟨i + 1, by go_num, hlt, Lib.hid HB.out.drew, HK2⟩
          case measure => simp [intOf]; omega
        · have HR := Lib.hid (HNOi.out h3)
          have hne : ((c.toNat : Int) != t.toNat) = true := by
            have : c.toNat ≠ t.toNat := fun e => h1 (UInt8.toNat_inj.1 e)
            simp; omega
          have hne2 : ((c.toNat : Int) != u.toNat) = true := by
            have : c.toNat ≠ u.toNat := fun e => h2 (UInt8.toNat_inj.1 e)
            simp; omega
          clear HKi HNOi HK h3 h7 h1 h2
          generalize c.toNat = cn at *
          generalize t.toNat = tn at *
          generalize u.toNat = un at *
          generalize bsB l = s at *
          generalize l.length = m at *
          go_wp2
          go_region
          simp only [Exit.then]
          go_wp2
          exact bodyPost_ret (v := .tuple #[.string ⟨#[]⟩, .string ⟨#[]⟩, .bool false]) (by simp [results, Tryd.results28, go_sem]) rfl ⟨by rw [HR.out], HB.out.drew⟩
      · obtain rfl : i = 7 := by omega
        have hfo := Lib.hid (fold_take l HK.out)
        clear HK HI2 HI3
        go_wp2
        go_loopw [8] (fun q wr => ∃ k : Nat, q = .int .i64 k ∧ k ≤ l.length ∧ 7 ≤ k ∧ Hid (Below w.heap.size w wr) ∧ Hid (∀ j, 7 ≤ j → j < k → l[j]? ≠ some 47)) (fun q _ => l.length - (intOf q).toNat)
        case atStart => exact ⟨7, rfl, h7', by omega, HB, Lib.hid (fun j h1 h2 => by omega)⟩
        case round =>
          obtain ⟨k, rfl, hk, hk7, HB2, HK⟩ := hrel
          by_cases hlt : k < l.length
          · have hz := List.getElem?_eq_getElem hlt
            have j1 := HI.out k _ hz
            have hki : (k : Int) < l.length := by omega
            by_cases hc : l[k] = 47
            · have HR := Lib.hid (HSOME.out _ _ (file_slash hk7 hfo.out (by rw [hz, hc]) HK.out))
              rw [hc] at j1
              change ∀ W, (Instr.index 9 (.string (bsB l)) (.int .i64 k)).run Tryd.prog W = .ok (.int .u8 47) W at j1
              have hx1 := HX.out k
              have hx2 := HX2.out k
              have HTk := Lib.hid fun W => HT.out W k
              have hks : (k : Int) ≤ (bsB l).size := by rw [hsz]; omega
              have hks2 : (k : Int) < (bsB l).size := by rw [hsz]; omega
              clear hz hc HK HT HNONE HSOME HX HX2 HI hsz
              generalize bsB (takeL (l.drop k)) = tp at *
              generalize bsB ((l.drop 7).take (k - 7)) = th at *
              generalize bsB (l.drop k) = td at *
              generalize hal : allL (l.drop k) = al at *
              clear hal
              generalize hsl : bsB l = s at *
              generalize l.length = m at *
              go_wp2_with (go_at_call 48; (with_reducible refine (HTk.out _).mono ?_); rintro e w3 ⟨rfl, hb⟩; have HB3 := Lib.hid (bel0 HB2.out hb); clear hb)
              exact bodyPost_ret (v := .tuple #[.string th, .string tp, .bool true]) (by simp [results, Tryd.results28, go_sem]) rfl ⟨by rw [HR.out], HB3.out⟩
            · have HK2 : Hid (∀ j, 7 ≤ j → j < k + 1 → l[j]? ≠ some 47) := Lib.hid fun j h1 h2 => by
                rcases (by omega : j < k ∨ j = k) with h3 | rfl
                · exact HK.out j h1 h3
                · rw [hz]; exact fun e => hc (Option.some.inj e)
              generalize l[k] = c at *
              have hne : ¬ ((c.toNat : Int) = 47) := fun e => hc (UInt8.toNat_inj.1 (by show c.toNat = 47; omega))
              clear hz hc HK HT HNONE HSOME HX HX2 HI
              generalize c.toNat = cn at *
              generalize bsB l = s at *
              generalize hml : l.length = m at *
              clear hml
              go_wp2
              go_roundw
              case rel => exact ⟨k + 1, by go_num, hlt, by omega, HB2, HK2⟩
              case measure => simp [intOf]; omega
          · obtain rfl : k = l.length := by omega
            have HR := Lib.hid (HNONE.out (file_never HK.out))
            clear HK HT HNONE HSOME HX HX2 HI
            generalize bsB l = s at *
            generalize l.length = m at *
            go_wp2
            exact bodyPost_ret (v := .tuple #[.string ⟨#[]⟩, .string ⟨#[]⟩, .bool false]) (by simp [results, Tryd.results28, go_sem]) rfl ⟨by rw [HR.out], HB2.out⟩
end Go.Proofs.YtkkhlmilcdlfoaaDoor
