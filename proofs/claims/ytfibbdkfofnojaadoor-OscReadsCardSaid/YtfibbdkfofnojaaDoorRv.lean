/- The walks of the document's Field, cut, starts. -/
import Derived.Test.YtfibbdkfofnojaaDoorRd
import Derived.Test.YtfibbdkfofnojaaDoorXj
namespace Go.Proofs.YtfibbdkfofnojaaDoor
open Go.RowKit

/-- How far the document's Field has come: field n begins at fr, and up to k it has no semicolon; or the last field lies behind. -/
def FS (l : List UInt8) (i n fr k : Nat) : Prop := n ≤ i ∧ ((k ≤ l.length ∧ fr ≤ k ∧ fromL l n = some (l.drop fr) ∧ ∀ j, fr ≤ j → j < k → l[j]? ≠ some 59) ∨ (k = l.length + 1 ∧ fr = l.length + 1 ∧ fromL l n = none))
theorem FS.start (l : List UInt8) (i : Nat) : FS l i 0 0 0 := ⟨Nat.zero_le _, .inl ⟨Nat.zero_le _, Nat.le_refl _, rfl, fun _ _ h => absurd h (Nat.not_lt_zero _)⟩⟩
theorem FS.bounds {l : List UInt8} {i n fr k : Nat} (h : FS l i n fr k) : n ≤ i ∧ k ≤ l.length + 1 ∧ fr ≤ k := by
  obtain ⟨h1, ⟨h2, h3, _⟩ | ⟨h2, h3, _⟩⟩ := h
  · exact ⟨h1, by omega, h3⟩
  · exact ⟨h1, by omega, by omega⟩
theorem FS.plain {l : List UInt8} {i n fr k : Nat} (h : FS l i n fr k) (hk : k < l.length) (hc : l[k] ≠ 59) : FS l i n fr (k + 1) := by
  obtain ⟨h1, ⟨h2, h3, h4, h5⟩ | ⟨h2, _⟩⟩ := h
  · refine ⟨h1, .inl ⟨hk, by omega, h4, fun j a b => ?_⟩⟩
    rcases (by omega : j < k ∨ j = k) with c | rfl
    · exact h5 j a c
    · rw [List.getElem?_eq_getElem hk]; exact fun e => hc (Option.some.inj e)
  · omega
theorem FS.idx {l : List UInt8} {i n fr k : Nat} (h : FS l i n fr k) (hk : k < l.length) (hc : l[k] = 59) : fromL l n = some (l.drop fr) ∧ (l.drop fr).idxOf? 59 = some (k - fr) ∧ fr ≤ k := by
  obtain ⟨_, ⟨_, h3, h4, h5⟩ | ⟨h2, _⟩⟩ := h
  · refine ⟨h4, idx_first ?_ fun j hj => ?_, h3⟩
    · rw [List.getElem?_drop, show fr + (k - fr) = k by omega, List.getElem?_eq_getElem hk, hc]
    · rw [List.getElem?_drop]; exact h5 (fr + j) (by omega) (by omega)
  · omega
theorem FS.last {l : List UInt8} {i n fr : Nat} (h : FS l i n fr l.length) : fromL l n = some (l.drop fr) ∧ (l.drop fr).idxOf? 59 = none ∧ fr ≤ l.length := by
  obtain ⟨_, ⟨_, h3, h4, h5⟩ | ⟨h2, _⟩⟩ := h
  · refine ⟨h4, idx_never fun j hj => ?_, h3⟩
    rw [List.getElem?_drop]
    rw [List.length_drop] at hj
    exact h5 (fr + j) (by omega) (by omega)
  · omega
theorem FS.next {l : List UInt8} {i n fr k : Nat} (h : FS l i n fr k) (hk : k < l.length) (hc : l[k] = 59) (hn : n ≠ i) : FS l i (n + 1) (k + 1) (k + 1) := by
  obtain ⟨a, b, c⟩ := h.idx hk hc
  refine ⟨by have := h.1; omega, .inl ⟨hk, Nat.le_refl _, ?_, fun j x y => by omega⟩⟩
  show (fromL l n).bind cut1 = _
  rw [a]
  show cut1 (l.drop fr) = _
  unfold cut1
  rw [b]
  show some ((l.drop fr).drop (k - fr + 1)) = _
  rw [List.drop_drop, show fr + (k - fr + 1) = k + 1 by omega]
theorem FS.over {l : List UInt8} {i n fr : Nat} (h : FS l i n fr l.length) (hn : n ≠ i) : FS l i (n + 1) (l.length + 1) (l.length + 1) := by
  obtain ⟨a, b, c⟩ := h.last
  refine ⟨by have := h.1; omega, .inr ⟨rfl, rfl, ?_⟩⟩
  show (fromL l n).bind cut1 = _
  rw [a]
  show cut1 (l.drop fr) = _
  unfold cut1
  rw [b]
  rfl
/-- What field and the document's Field answer. -/
def fieldV (l : List UInt8) (n : Nat) : Value := .tuple #[.string (bsB (fld1 ((fromL l n).getD []))), .bool (fromL l n).isSome]
theorem FS.hit {l : List UInt8} {n fr k : Nat} (h : FS l n n fr k) (hk : k < l.length) (hc : l[k] = 59) : fieldV l n = .tuple #[.string (bsB ((l.drop fr).take (k - fr))), .bool true] := by
  obtain ⟨a, b, c⟩ := h.idx hk hc
  unfold fieldV
  rw [a]
  show Value.tuple #[.string (bsB (fld1 (l.drop fr))), .bool true] = _
  unfold fld1
  rw [b]
theorem FS.hitl {l : List UInt8} {n fr : Nat} (h : FS l n n fr l.length) : fieldV l n = .tuple #[.string (bsB ((l.drop fr).take (l.length - fr))), .bool true] := by
  obtain ⟨a, b, c⟩ := h.last
  unfold fieldV
  rw [a]
  show Value.tuple #[.string (bsB (fld1 (l.drop fr))), .bool true] = _
  unfold fld1
  rw [b, List.take_of_length_le (by simp)]
theorem FS.miss {l : List UInt8} {i n fr k : Nat} (h : FS l i n fr k) (hk : k = l.length + 1) : fieldV l i = .tuple #[.string ⟨#[]⟩, .bool false] := by
  obtain ⟨h1, ⟨h2, _⟩ | ⟨_, _, h4⟩⟩ := h
  · omega
  · unfold fieldV
    rw [fromL_none h4 i h1]
    rfl
set_option maxRecDepth 100000 in
set_option maxHeartbeats 4000000 in
theorem refField_any (l : List UInt8) (hl : l.length ≤ 10000) (i : Nat) (hi : i ≤ 1000) (w : World) : Calls Tryd.prog 25 #[.string (bsB l), .int .i64 i] w fun e w' => e = .returned (fieldV l i) ∧ Below w.heap.size w w' := by
  have hsz : ((bsB l).size : Int) = l.length := by rw [bsB_size]
  have HI := Lib.hid (idx_bs l)
  have HX : Hid (∀ a k : Nat, (bsB l).extract a k = bsB ((l.drop a).take (k - a))) := Lib.hid fun a k => bs_extract l a k
  obtain ⟨fv, hfv⟩ : ∃ v, v = fieldV l i := ⟨_, rfl⟩
  rw [← hfv]
  have HFV := Lib.hid hfv
  clear hfv
  go_enter Tryd.func25, Tryd.ntmps25
  go_wp2
  go_loopw [6, 7, 8] (fun nn ff kk wr => ∃ n fr k : Nat, nn = .int .i64 n ∧ ff = .int .i64 fr ∧ kk = .int .i64 k ∧ Hid (FS l i n fr k) ∧ Hid (Below w.heap.size w wr)) (fun _ _ kk _ => l.length + 2 - (intOf kk).toNat)
  case atStart => exact ⟨0, 0, 0, rfl, rfl, rfl, Lib.hid (FS.start l i), Lib.hid (Below.refl _ _)⟩
  case round =>
    obtain ⟨n, fr, k, rfl, rfl, rfl, HS, HB⟩ := hrel
    obtain ⟨hb1, hb2, hb3⟩ := HS.out.bounds
    by_cases hlt : k < l.length
    · have j1 := HI.out k _ (List.getElem?_eq_getElem hlt)
      have hki : (k : Int) < l.length := by omega
      by_cases hc : l[k] = 59
      · rw [hc] at j1
        change ∀ W, (Instr.index 9 (.string (bsB l)) (.int .i64 k)).run Tryd.prog W = .ok (.int .u8 59) W at j1
        by_cases hn : n = i
        · subst hn
          have HR := Lib.hid (HS.out.hit hlt hc)
          have hx1 := HX.out fr k
          have hks : (k : Int) ≤ (bsB l).size := by rw [hsz]; omega
          clear hc HX HI HS
          generalize bsB ((l.drop fr).take (k - fr)) = tp at *
          generalize bsB l = s at *
          generalize l.length = m at *
          go_wp2
          exact bodyPost_ret (v := .tuple #[.string tp, .bool true]) (by simp [results, Tryd.results25, go_sem]) rfl ⟨by rw [HFV.out, HR.out], HB.out⟩
        · have HS2 := Lib.hid (HS.out.next hlt hc hn)
          have hne : ¬ ((n : Int) = i) := by omega
          clear hc HX HI HS
          generalize bsB l = s at *
          generalize hml : l.length = m at *
          clear hml
          go_wp2
          go_roundw
          case rel => exact ⟨n + 1, k + 1, k + 1, by go_num, by go_num, by go_num, HS2, HB⟩
          case measure => simp [intOf]; omega
      · have HS2 := Lib.hid (HS.out.plain hlt hc)
        generalize l[k] = c at *
        have hne : ¬ ((c.toNat : Int) = 59) := fun e => hc (UInt8.toNat_inj.1 (by show c.toNat = 59; omega))
        have hq1 : ((k : Int) == (l.length : Int)) = false := by simp; omega
        have hq2 : ((c.toNat : Int) == 59) = false := by simp; omega
        clear hc HX HI HS
        generalize c.toNat = cn at *
        generalize bsB l = s at *
        generalize hml : l.length = m at *
        clear hml
        go_wp2
        go_roundw
        case rel => exact ⟨n, fr, k + 1, rfl, rfl, by go_num, HS2, HB⟩
        case measure => simp [intOf]; omega
    · by_cases hk : k = l.length
      · subst hk
        by_cases hn : n = i
        · subst hn
          have HR := Lib.hid HS.out.hitl
          have hx1 := HX.out fr l.length
          have hks : ((l.length : Nat) : Int) ≤ (bsB l).size := by rw [hsz]; omega
          clear HX HI HS
          generalize bsB ((l.drop fr).take (l.length - fr)) = tp at *
          generalize bsB l = s at *
          generalize l.length = m at *
          go_wp2
          exact bodyPost_ret (v := .tuple #[.string tp, .bool true]) (by simp [results, Tryd.results25, go_sem]) rfl ⟨by rw [HFV.out, HR.out], HB.out⟩
        · have HS2 := Lib.hid (HS.out.over hn)
          have hne : ¬ ((n : Int) = i) := by omega
          clear HX HI HS
          generalize bsB l = s at *
          generalize hml : l.length = m at *
          clear hml
          go_wp2
          go_roundw
          case rel => exact ⟨n + 1, m + 1, m + 1, by go_num, by go_num, by go_num, HS2, HB⟩
          case measure => simp [intOf]
      · obtain rfl : k = l.length + 1 := by omega
        have HR := Lib.hid (HS.out.miss rfl)
        clear HX HI HS
        generalize bsB l = s at *
        generalize l.length = m at *
        go_wp2
        exact bodyPost_ret (v := .tuple #[.string ⟨#[]⟩, .bool false]) (by simp [results, Tryd.results25, go_sem]) rfl ⟨by rw [HFV.out, HR.out], HB.out⟩
theorem refCut_any (l : List UInt8) (hl : l.length ≤ 100000) (w : World) : Calls Tryd.prog 26 #[.string (bsB l)] w fun e w' => e = .returned (.string (bsB (l.take 256))) ∧ w' = w := by
  by_cases h : 256 < l.length
  · have hs : (256 : Int) < (bsB l).size := by rw [bsB_size]; omega
    have hx : (bsB l).extract 0 256 = bsB (l.take 256) := by rw [bs_extract]; rfl
    generalize bsB (l.take 256) = u at *
    generalize bsB l = s at *
    go_enter Tryd.func26, Tryd.ntmps26
    go_wp2
    go_ret
    exact ⟨rfl, rfl⟩
  · have hs : ¬ ((256 : Int) < (bsB l).size) := by rw [bsB_size]; omega
    rw [List.take_of_length_le (by omega)]
    generalize bsB l = s at *
    go_enter Tryd.func26, Tryd.ntmps26
    go_wp2
    go_ret
    exact ⟨rfl, rfl⟩
end Go.Proofs.YtfibbdkfofnojaaDoor
