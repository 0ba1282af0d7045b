/- The walk of the Decoder's Step. -/
import Derived.Test.YtmmkcfjncpcabaaDoorVn
namespace Go.Proofs.YtmmkcfjncpcabaaDoor
open Go.RowKit

def StepPost (D : Nat) (zs : List Nat) (w : World) (e : Ending) (w' : World) : Prop :=
  ∃ v, e = .returned v ∧ w'.ownsRow w.heap.size 21 1 v (rdL zs).length ((rdL zs).map encR) ∧ DecL w' D (zs.drop (sumB (rdL zs))) ∧ GD D w w'

set_option maxRecDepth 100000 in
set_option maxHeartbeats 1000000 in
theorem step_0 (D z : Nat) (hz : z < 256) (w : World) (h : DecL w D []) (hT : UT w) (hm : max 0 1 + 1 ≤ w.heap.size) (h1 : D ≠ 0) (h2 : D ≠ 1) (hu : sumB (rdL ([] ++ [z])) ≤ 1) (hw : 1 ≤ sumB (rdL ([] ++ [z])) + 3) :
    Calls Tryd.prog 63 #[.pointer (some ⟨D, 9, none⟩), .int .u8 z] w (StepPost D ([] ++ [z]) w) := by
  have hr := dec_read w D [] z hz h hT hm h1 h2 1 rfl _ rfl
  have h4 : w.cell? ⟨D, 13, none⟩ = some (.int .i64 0) := h.left
  obtain ⟨v0, hv0⟩ := h.room 0 (by omega)
  have hf0 := h.free 0 (by omega)
  have HH := Lib.hid h
  clear h hT hm h1 h2
  unfold RdPost at hr
  unfold StepPost
  generalize hzs : ([] ++ [z] : List Nat) = zs at *
  have HZS := Lib.hid hzs
  clear hzs
  generalize rdL zs = rs at *
  generalize sumB rs = u at *
  go_enter Tryd.func63, Tryd.ntmps63
  go_wp2_with fail
  go_region
  go_wp2_with fail
  go_region
  go_wp2_with (go_at_call 71; refine hr.mono ?_; clear hr; rintro e w2 ⟨v, rfl, ho, hb⟩)
  obtain ⟨hD, hc, hroom, hfz, hc4, hg⟩ := dec_after w D [] z hz HH.out w2 hb
  clear hb hv0 hf0 h4
  rw [show (w.setCell ⟨D, 9 + ([] : List Nat).length, none⟩ (.int .u8 z)).drew.drew.heap.size = w.heap.size from World.size_setCell ..] at ho
  have HO := Lib.hid ho
  have HG := Lib.hid hg
  have f4 := hfz 4 (by omega)
  have hz8 : ∀ x ∈ zs, x < 256 := by
    rw [← HZS.out]
    intro x hx
    rcases List.mem_append.1 hx with hx | hx
    · exact HH.out.byte x hx
    · simp at hx; omega
  have hzl : zs.length = 1 := by rw [← HZS.out]; rfl
  have hc' : ∀ k, k < zs.length → w2.cell? ⟨D, 9 + k, none⟩ = some (.int .u8 (zs[k]?.getD 0 : Nat)) := by
    intro k hk
    rw [← HZS.out]
    exact hc k (by rw [hzl] at hk; exact hk)
  clear ho hc
  rcases (by omega : u = 0 ∨ u = 1) with rfl | rfl
  · obtain ⟨w3, hcp, c4, hfz4, hdec, hgr⟩ := dec_copy w2 w2 D zs 0 1 4 (by omega) (by omega) (by omega) (by omega) hz8 hD hc' hroom hfz _ hc4 (GD.refl _ _)
    have HDG := Lib.hid (And.intro hdec hgr)
    clear hdec hgr hroom hfz hc' hz8 hu hw hg
    go_region
    go_wp2
    go_ret
    exact ⟨v, rfl, owns_past HO.out HH.out.lt HDG.out.2, HDG.out.1, GD.trans HG.out HDG.out.2⟩
  · obtain ⟨hcp, hdec, hgr⟩ := dec_empty w2 w2 D zs 1 (by omega) hD hroom hfz _ hc4 (GD.refl _ _)
    have HDG := Lib.hid (And.intro hdec hgr)
    clear hdec hgr hroom hfz hc' hz8 hu hw hg
    go_region
    go_wp2
    go_ret
    exact ⟨v, rfl, owns_past HO.out HH.out.lt HDG.out.2, HDG.out.1, GD.trans HG.out HDG.out.2⟩

set_option maxRecDepth 100000 in
set_option maxHeartbeats 1000000 in
theorem step_1 (D z : Nat) (a : Nat) (hz : z < 256) (w : World) (h : DecL w D [a]) (hT : UT w) (hm : max 0 1 + 1 ≤ w.heap.size) (h1 : D ≠ 0) (h2 : D ≠ 1) (hu : sumB (rdL ([a] ++ [z])) ≤ 2) (hw : 2 ≤ sumB (rdL ([a] ++ [z])) + 3) :
    Calls Tryd.prog 63 #[.pointer (some ⟨D, 9, none⟩), .int .u8 z] w (StepPost D ([a] ++ [z]) w) := by
  have hr := dec_read w D [a] z hz h hT hm h1 h2 2 rfl _ rfl
  have h4 : w.cell? ⟨D, 13, none⟩ = some (.int .i64 1) := h.left
  obtain ⟨v0, hv0⟩ := h.room 1 (by omega)
  have hf0 := h.free 1 (by omega)
  have HH := Lib.hid h
  clear h hT hm h1 h2
  unfold RdPost at hr
  unfold StepPost
  generalize hzs : ([a] ++ [z] : List Nat) = zs at *
  have HZS := Lib.hid hzs
  clear hzs
  generalize rdL zs = rs at *
  generalize sumB rs = u at *
  go_enter Tryd.func63, Tryd.ntmps63
  go_wp2_with fail
  go_region
  go_wp2_with fail
  go_region
  go_wp2_with (go_at_call 71; refine hr.mono ?_; clear hr; rintro e w2 ⟨v, rfl, ho, hb⟩)
  obtain ⟨hD, hc, hroom, hfz, hc4, hg⟩ := dec_after w D [a] z hz HH.out w2 hb
  clear hb hv0 hf0 h4
  rw [show (w.setCell ⟨D, 9 + ([a] : List Nat).length, none⟩ (.int .u8 z)).drew.drew.heap.size = w.heap.size from World.size_setCell ..] at ho
  have HO := Lib.hid ho
  have HG := Lib.hid hg
  have f4 := hfz 4 (by omega)
  have hz8 : ∀ x ∈ zs, x < 256 := by
    rw [← HZS.out]
    intro x hx
    rcases List.mem_append.1 hx with hx | hx
    · exact HH.out.byte x hx
    · simp at hx; omega
  have hzl : zs.length = 2 := by rw [← HZS.out]; rfl
  have hc' : ∀ k, k < zs.length → w2.cell? ⟨D, 9 + k, none⟩ = some (.int .u8 (zs[k]?.getD 0 : Nat)) := by
    intro k hk
    rw [← HZS.out]
    exact hc k (by rw [hzl] at hk; exact hk)
  clear ho hc
  rcases (by omega : u = 0 ∨ u = 1 ∨ u = 2) with rfl | rfl | rfl
  · obtain ⟨w3, hcp, c4, hfz4, hdec, hgr⟩ := dec_copy w2 w2 D zs 0 2 4 (by omega) (by omega) (by omega) (by omega) hz8 hD hc' hroom hfz _ hc4 (GD.refl _ _)
    have HDG := Lib.hid (And.intro hdec hgr)
    clear hdec hgr hroom hfz hc' hz8 hu hw hg
    go_region
    go_wp2
    go_ret
    exact ⟨v, rfl, owns_past HO.out HH.out.lt HDG.out.2, HDG.out.1, GD.trans HG.out HDG.out.2⟩
  · obtain ⟨w3, hcp, c4, hfz4, hdec, hgr⟩ := dec_copy w2 w2 D zs 1 1 3 (by omega) (by omega) (by omega) (by omega) hz8 hD hc' hroom hfz _ hc4 (GD.refl _ _)
    have HDG := Lib.hid (And.intro hdec hgr)
    clear hdec hgr hroom hfz hc' hz8 hu hw hg
    go_region
    go_wp2
    go_ret
    exact ⟨v, rfl, owns_past HO.out HH.out.lt HDG.out.2, HDG.out.1, GD.trans HG.out HDG.out.2⟩
  · obtain ⟨hcp, hdec, hgr⟩ := dec_empty w2 w2 D zs 2 (by omega) hD hroom hfz _ hc4 (GD.refl _ _)
    have HDG := Lib.hid (And.intro hdec hgr)
    clear hdec hgr hroom hfz hc' hz8 hu hw hg
    go_region
    go_wp2
    go_ret
    exact ⟨v, rfl, owns_past HO.out HH.out.lt HDG.out.2, HDG.out.1, GD.trans HG.out HDG.out.2⟩

set_option maxRecDepth 100000 in
set_option maxHeartbeats 1000000 in
theorem step_2 (D z : Nat) (a b : Nat) (hz : z < 256) (w : World) (h : DecL w D [a, b]) (hT : UT w) (hm : max 0 1 + 1 ≤ w.heap.size) (h1 : D ≠ 0) (h2 : D ≠ 1) (hu : sumB (rdL ([a, b] ++ [z])) ≤ 3) (hw : 3 ≤ sumB (rdL ([a, b] ++ [z])) + 3) :
    Calls Tryd.prog 63 #[.pointer (some ⟨D, 9, none⟩), .int .u8 z] w (StepPost D ([a, b] ++ [z]) w) := by
  have hr := dec_read w D [a, b] z hz h hT hm h1 h2 3 rfl _ rfl
  have h4 : w.cell? ⟨D, 13, none⟩ = some (.int .i64 2) := h.left
  obtain ⟨v0, hv0⟩ := h.room 2 (by omega)
  have hf0 := h.free 2 (by omega)
  have HH := Lib.hid h
  clear h hT hm h1 h2
  unfold RdPost at hr
  unfold StepPost
  generalize hzs : ([a, b] ++ [z] : List Nat) = zs at *
  have HZS := Lib.hid hzs
  clear hzs
  generalize rdL zs = rs at *
  generalize sumB rs = u at *
  go_enter Tryd.func63, Tryd.ntmps63
  go_wp2_with fail
  go_region
  go_wp2_with fail
  go_region
  go_wp2_with (go_at_call 71; refine hr.mono ?_; clear hr; rintro e w2 ⟨v, rfl, ho, hb⟩)
  obtain ⟨hD, hc, hroom, hfz, hc4, hg⟩ := dec_after w D [a, b] z hz HH.out w2 hb
  clear hb hv0 hf0 h4
  rw [show (w.setCell ⟨D, 9 + ([a, b] : List Nat).length, none⟩ (.int .u8 z)).drew.drew.heap.size = w.heap.size from World.size_setCell ..] at ho
  have HO := Lib.hid ho
  have HG := Lib.hid hg
  have f4 := hfz 4 (by omega)
  have hz8 : ∀ x ∈ zs, x < 256 := by
    rw [← HZS.out]
    intro x hx
    rcases List.mem_append.1 hx with hx | hx
    · exact HH.out.byte x hx
    · simp at hx; omega
  have hzl : zs.length = 3 := by rw [← HZS.out]; rfl
  have hc' : ∀ k, k < zs.length → w2.cell? ⟨D, 9 + k, none⟩ = some (.int .u8 (zs[k]?.getD 0 : Nat)) := by
    intro k hk
    rw [← HZS.out]
    exact hc k (by rw [hzl] at hk; exact hk)
  clear ho hc
  rcases (by omega : u = 0 ∨ u = 1 ∨ u = 2 ∨ u = 3) with rfl | rfl | rfl | rfl
  · obtain ⟨w3, hcp, c4, hfz4, hdec, hgr⟩ := dec_copy w2 w2 D zs 0 3 4 (by omega) (by omega) (by omega) (by omega) hz8 hD hc' hroom hfz _ hc4 (GD.refl _ _)
    have HDG := Lib.hid (And.intro hdec hgr)
    clear hdec hgr hroom hfz hc' hz8 hu hw hg
    go_region
    go_wp2
    go_ret
    exact ⟨v, rfl, owns_past HO.out HH.out.lt HDG.out.2, HDG.out.1, GD.trans HG.out HDG.out.2⟩
  · obtain ⟨w3, hcp, c4, hfz4, hdec, hgr⟩ := dec_copy w2 w2 D zs 1 2 3 (by omega) (by omega) (by omega) (by omega) hz8 hD hc' hroom hfz _ hc4 (GD.refl _ _)
    have HDG := Lib.hid (And.intro hdec hgr)
    clear hdec hgr hroom hfz hc' hz8 hu hw hg
    go_region
    go_wp2
    go_ret
    exact ⟨v, rfl, owns_past HO.out HH.out.lt HDG.out.2, HDG.out.1, GD.trans HG.out HDG.out.2⟩
  · obtain ⟨w3, hcp, c4, hfz4, hdec, hgr⟩ := dec_copy w2 w2 D zs 2 1 2 (by omega) (by omega) (by omega) (by omega) hz8 hD hc' hroom hfz _ hc4 (GD.refl _ _)
    have HDG := Lib.hid (And.intro hdec hgr)
    clear hdec hgr hroom hfz hc' hz8 hu hw hg
    go_region
    go_wp2
    go_ret
    exact ⟨v, rfl, owns_past HO.out HH.out.lt HDG.out.2, HDG.out.1, GD.trans HG.out HDG.out.2⟩
  · obtain ⟨hcp, hdec, hgr⟩ := dec_empty w2 w2 D zs 3 (by omega) hD hroom hfz _ hc4 (GD.refl _ _)
    have HDG := Lib.hid (And.intro hdec hgr)
    clear hdec hgr hroom hfz hc' hz8 hu hw hg
    go_region
    go_wp2
    go_ret
    exact ⟨v, rfl, owns_past HO.out HH.out.lt HDG.out.2, HDG.out.1, GD.trans HG.out HDG.out.2⟩

set_option maxRecDepth 100000 in
set_option maxHeartbeats 1000000 in
theorem step_3 (D z : Nat) (a b c : Nat) (hz : z < 256) (w : World) (h : DecL w D [a, b, c]) (hT : UT w) (hm : max 0 1 + 1 ≤ w.heap.size) (h1 : D ≠ 0) (h2 : D ≠ 1) (hu : sumB (rdL ([a, b, c] ++ [z])) ≤ 4) (hw : 4 ≤ sumB (rdL ([a, b, c] ++ [z])) + 3) :
    Calls Tryd.prog 63 #[.pointer (some ⟨D, 9, none⟩), .int .u8 z] w (StepPost D ([a, b, c] ++ [z]) w) := by
  have hr := dec_read w D [a, b, c] z hz h hT hm h1 h2 4 rfl _ rfl
  have h4 : w.cell? ⟨D, 13, none⟩ = some (.int .i64 3) := h.left
  obtain ⟨v0, hv0⟩ := h.room 3 (by omega)
  have hf0 := h.free 3 (by omega)
  have HH := Lib.hid h
  clear h hT hm h1 h2
  unfold RdPost at hr
  unfold StepPost
  generalize hzs : ([a, b, c] ++ [z] : List Nat) = zs at *
  have HZS := Lib.hid hzs
  clear hzs
  generalize rdL zs = rs at *
  generalize sumB rs = u at *
  go_enter Tryd.func63, Tryd.ntmps63
  go_wp2_with fail
  go_region
  go_wp2_with fail
  go_region
  go_wp2_with (go_at_call 71; refine hr.mono ?_; clear hr; rintro e w2 ⟨v, rfl, ho, hb⟩)
  obtain ⟨hD, hc, hroom, hfz, hc4, hg⟩ := dec_after w D [a, b, c] z hz HH.out w2 hb
  clear hb hv0 hf0 h4
  rw [show (w.setCell ⟨D, 9 + ([a, b, c] : List Nat).length, none⟩ (.int .u8 z)).drew.drew.heap.size = w.heap.size from World.size_setCell ..] at ho
  have HO := Lib.hid ho
  have HG := Lib.hid hg
  have f4 := hfz 4 (by omega)
  have hz8 : ∀ x ∈ zs, x < 256 := by
    rw [← HZS.out]
    intro x hx
    rcases List.mem_append.1 hx with hx | hx
    · exact HH.out.byte x hx
    · simp at hx; omega
  have hzl : zs.length = 4 := by rw [← HZS.out]; rfl
  have hc' : ∀ k, k < zs.length → w2.cell? ⟨D, 9 + k, none⟩ = some (.int .u8 (zs[k]?.getD 0 : Nat)) := by
    intro k hk
    rw [← HZS.out]
    exact hc k (by rw [hzl] at hk; exact hk)
  clear ho hc
  rcases (by omega : u = 1 ∨ u = 2 ∨ u = 3 ∨ u = 4) with rfl | rfl | rfl | rfl
  · obtain ⟨w3, hcp, c4, hfz4, hdec, hgr⟩ := dec_copy w2 w2 D zs 1 3 3 (by omega) (by omega) (by omega) (by omega) hz8 hD hc' hroom hfz _ hc4 (GD.refl _ _)
    have HDG := Lib.hid (And.intro hdec hgr)
    clear hdec hgr hroom hfz hc' hz8 hu hw hg
    go_region
    go_wp2
    go_ret
    exact ⟨v, rfl, owns_past HO.out HH.out.lt HDG.out.2, HDG.out.1, GD.trans HG.out HDG.out.2⟩
  · obtain ⟨w3, hcp, c4, hfz4, hdec, hgr⟩ := dec_copy w2 w2 D zs 2 2 2 (by omega) (by omega) (by omega) (by omega) hz8 hD hc' hroom hfz _ hc4 (GD.refl _ _)
    have HDG := Lib.hid (And.intro hdec hgr)
    clear hdec hgr hroom hfz hc' hz8 hu hw hg
    go_region
    go_wp2
    go_ret
    exact ⟨v, rfl, owns_past HO.out HH.out.lt HDG.out.2, HDG.out.1, GD.trans HG.out HDG.out.2⟩
  · obtain ⟨w3, hcp, c4, hfz4, hdec, hgr⟩ := dec_copy w2 w2 D zs 3 1 1 (by omega) (by omega) (by omega) (by omega) hz8 hD hc' hroom hfz _ hc4 (GD.refl _ _)
    have HDG := Lib.hid (And.intro hdec hgr)
    clear hdec hgr hroom hfz hc' hz8 hu hw hg
    go_region
    go_wp2
    go_ret
    exact ⟨v, rfl, owns_past HO.out HH.out.lt HDG.out.2, HDG.out.1, GD.trans HG.out HDG.out.2⟩
  · obtain ⟨hcp, hdec, hgr⟩ := dec_empty w2 w2 D zs 4 (by omega) hD hroom hfz _ hc4 (GD.refl _ _)
    have HDG := Lib.hid (And.intro hdec hgr)
    clear hdec hgr hroom hfz hc' hz8 hu hw hg
    go_region
    go_wp2
    go_ret
    exact ⟨v, rfl, owns_past HO.out HH.out.lt HDG.out.2, HDG.out.1, GD.trans HG.out HDG.out.2⟩

set_option maxRecDepth 100000 in
theorem full_four (zs : List Nat) (h8 : ∀ z ∈ zs, z < 256) (h : fullB zs = false) : zs.length ≤ 3 := by
  rcases Nat.lt_or_ge zs.length 4 with h4 | h4
  · omega
  · exfalso
    have h0 : zs[0]?.getD 0 < 256 := by
      rw [List.getElem?_eq_getElem (by omega)]
      exact h8 _ (List.getElem_mem _)
    have ht : ∀ z, z < 256 → Lib.firstT z % 8 ≤ 4 := by decide
    have := ht _ h0
    unfold fullB fullN fullX at h
    exact of_decide_eq_false h ⟨by omega, .inl (by omega)⟩
theorem rd_sum : ∀ (n : Nat) (zs : List Nat), zs.length ≤ n → (∀ z ∈ zs, z < 256) → sumB (rdL zs) ≤ zs.length ∧ zs.length ≤ sumB (rdL zs) + 3
  | 0, zs, hn, _ => by
    have : zs = [] := List.length_eq_zero_iff.1 (by omega)
    subst this
    exact ⟨Nat.le_refl _, by omega⟩
  | n + 1, zs, hn, h8 => by
    cases hf : fullB zs with
    | false =>
      rw [rdL_no zs hf]
      have := full_four zs h8 hf
      simp [sumB]
      omega
    | true =>
      have hb := firstF_bd zs (fullB_pos hf)
      have ih := rd_sum n (zs.drop (firstF zs).2) (by simp; omega) (fun z hz => h8 z (List.mem_of_mem_drop hz))
      rw [rdL_yes zs hf]
      simp only [sumB, List.map_cons, List.sum_cons, List.length_drop] at ih ⊢
      omega

theorem step_any (D z : Nat) (ps : List Nat) (hz : z < 256) (w : World) (h : DecL w D ps) (hT : UT w) (hm : max 0 1 + 1 ≤ w.heap.size) (h1 : D ≠ 0) (h2 : D ≠ 1) :
    Calls Tryd.prog 63 #[.pointer (some ⟨D, 9, none⟩), .int .u8 z] w (StepPost D (ps ++ [z]) w) := by
  have hl := h.len
  have h8 : ∀ x ∈ ps ++ [z], x < 256 := fun x hx => by
    rcases List.mem_append.1 hx with hx | hx
    · exact h.byte x hx
    · simp at hx; omega
  obtain ⟨hu, hw⟩ := rd_sum _ (ps ++ [z]) (Nat.le_refl _) h8
  rw [List.length_append, List.length_singleton] at hu hw
  match ps, hl with
  | [], _ => exact step_0 D z hz w h hT hm h1 h2 hu hw
  | [a], _ => exact step_1 D z a hz w h hT hm h1 h2 hu hw
  | [a, b], _ => exact step_2 D z a b hz w h hT hm h1 h2 hu hw
  | [a, b, c], _ => exact step_3 D z a b c hz w h hT hm h1 h2 hu hw
  | _ :: _ :: _ :: _ :: _, hl => simp at hl

end Go.Proofs.YtmmkcfjncpcabaaDoor
