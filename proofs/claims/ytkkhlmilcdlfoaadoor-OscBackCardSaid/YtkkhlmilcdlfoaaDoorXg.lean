/- The walks of File and Make. -/
import Derived.Test.YtkkhlmilcdlfoaaDoorXd
import Derived.Test.YtkkhlmilcdlfoaaDoorXe
namespace Go.Proofs.YtkkhlmilcdlfoaaDoor
open Go.RowKit

/-- What lies in memory that the walks read. -/
structure MT (w : World) : Prop where
  ev : EV w
  ft : FT w
theorem MT.past {w w' : World} (h : MT w) (hb : Below w.heap.size w w') : MT w' := ⟨h.ev.past hb, h.ft.past hb⟩
/-- What an address says: the host and the path. -/
def fileL (l : List UInt8) : Option (List UInt8 × List UInt8) :=
  if 7 ≤ l.length ∧ foldB (l.take 7) = true then
    (match (l.drop 7).idxOf? 47 with
    | some k => some ((l.drop 7).take k, takeL ((l.drop 7).drop k))
    | none => none)
  else none
def fileV (l : List UInt8) : Value := match fileL l with
  | some (h, p) => .tuple #[.string (bsB h), .string (bsB p), .int .i64 0]
  | none => .tuple #[.string ⟨#[]⟩, .string ⟨#[]⟩, .int .i64 4]
theorem idx_some {l : List UInt8} {c : UInt8} : ∀ {k : Nat}, l.idxOf? c = some k → Lib.indexByte l c = k ∧ k < l.length := by
  induction l with
  | nil => intro k h; simp at h
  | cons b r ih =>
    intro k h
    rw [List.idxOf?_cons] at h
    unfold Lib.indexByte
    by_cases hb : (b == c) = true
    · rw [if_pos hb] at h ⊢
      obtain rfl := Option.some.inj h
      exact ⟨rfl, by simp⟩
    · rw [if_neg hb] at h ⊢
      obtain ⟨j, hj, rfl⟩ := Option.map_eq_some_iff.1 h
      obtain ⟨h1, h2⟩ := ih hj
      rw [h1, if_neg (by simp <;> omega)]
      refine ⟨?_, ?_⟩
      · omega
      · simp only [List.length_cons]; omega
theorem idx_none {l : List UInt8} {c : UInt8} (h : l.idxOf? c = none) : Lib.indexByte l c = -1 := by
  induction l with
  | nil => rfl
  | cons b r ih =>
    rw [List.idxOf?_cons] at h
    unfold Lib.indexByte
    by_cases hb : (b == c) = true
    · rw [if_pos hb] at h; cases h
    · rw [if_neg hb] at h ⊢
      rw [ih (Option.map_eq_none_iff.1 h)]
      rfl
set_option maxRecDepth 100000 in
set_option maxHeartbeats 2000000 in
theorem file_any (l : List UInt8) (hl : l.length ≤ 100000) (w : World) (hM : MT w) :
    Calls Tryd.prog 45 #[.string (bsB l)] w fun e w' => e = .returned (fileV l) ∧ Below w.heap.size w w' := by
  by_cases h7 : 7 ≤ l.length
  · have hs : ¬ ((bsB l).size : Int) < 7 := by rw [bsB_size]; omega
    have hs7 : (7 : Int) ≤ (bsB l).size := by rw [bsB_size]; omega
    have hx : (bsB l).extract 0 7 = bsB (l.take 7) := by rw [bs_extract]; rfl
    have hx2 : (bsB l).extract 7 (bsB l).size = bsB (l.drop 7) := by rw [bs_extract, bsB_size, List.take_of_length_le (by simp)]
    have HF := Lib.hid (fold_any (l.take 7) (by simp; omega) w hM.ft)
    by_cases hf : foldB (l.take 7) = true
    · rw [hf] at HF
      have HM := Lib.hid hM
      cases hk : (l.drop 7).idxOf? 47 with
      | none =>
        have HE : Hid (fileV l = .tuple #[.string ⟨#[]⟩, .string ⟨#[]⟩, .int .i64 4]) := Lib.hid (by unfold fileV fileL; rw [if_pos ⟨h7, hf⟩, hk])
        have HI : Hid (∀ W, Calls Tryd.prog 61 #[.string (bsB (l.drop 7)), .int .u8 47] W fun e w' => e = .returned (.int .i64 (-1)) ∧ w' = W) := Lib.hid fun W => by
          have h := Tryd.strings_IndexByte (bsB (l.drop 7)) 47 W
          rw [show Lib.indexByte (bsB (l.drop 7)).data.toList (47 : Int).toNat.toUInt8 = -1 from idx_none hk] at h
          exact h
        clear hk hf h7 hl hM
        generalize fileV l = fv at *
        generalize bsB (l.take 7) = t7 at *
        generalize bsB (l.drop 7) = t8 at *
        generalize bsB l = t at *
        go_enter Tryd.func45, Tryd.ntmps45
        go_wp2_with (first
          | (go_at_call 60; (with_reducible refine (HF.out).mono ?_); rintro e w1 ⟨rfl, hb⟩; have HB1 := Lib.hid hb; clear hb)
          | (go_at_call 61; (with_reducible refine (HI.out _).mono ?_); rintro e w2 ⟨rfl, rfl⟩))
        exact bodyPost_ret (v := .tuple #[.string ⟨#[]⟩, .string ⟨#[]⟩, .int .i64 4]) (by simp [results, Tryd.results45, go_sem]) rfl ⟨by rw [HE.out], HB1.out⟩
      | some k =>
        obtain ⟨hi1, hi2⟩ := idx_some hk
        have HE : Hid (fileV l = .tuple #[.string (bsB ((l.drop 7).take k)), .string (bsB (takeL ((l.drop 7).drop k))), .int .i64 0]) := Lib.hid (by unfold fileV fileL; rw [if_pos ⟨h7, hf⟩, hk])
        have HI : Hid (∀ W, Calls Tryd.prog 61 #[.string (bsB (l.drop 7)), .int .u8 47] W fun e w' => e = .returned (.int .i64 (k : Int)) ∧ w' = W) := Lib.hid fun W => by
          have h := Tryd.strings_IndexByte (bsB (l.drop 7)) 47 W
          rw [show Lib.indexByte (bsB (l.drop 7)).data.toList (47 : Int).toNat.toUInt8 = (k : Int) from hi1] at h
          exact h
        have hk8 : (k : Int) ≤ (bsB (l.drop 7)).size := by rw [bsB_size]; omega
        have hx3 : (bsB (l.drop 7)).extract 0 k = bsB ((l.drop 7).take k) := by rw [bs_extract]; rfl
        have hx4 : (bsB (l.drop 7)).extract k (bsB (l.drop 7)).size = bsB ((l.drop 7).drop k) := by rw [bs_extract, bsB_size, List.take_of_length_le (by simp only [List.length_drop]; omega)]
        have HT : Hid (∀ W, Below w.heap.size w W → Calls Tryd.prog 62 #[.string (bsB ((l.drop 7).drop k))] W fun e w' => e = .returned (.string (bsB (takeL ((l.drop 7).drop k)))) ∧ Below W.heap.size W w') := Lib.hid fun W hW => take_any _ (by simp; omega) W (hM.ev.past hW)
        clear hk hf h7 hl hM hi1 hi2
        generalize fileV l = fv at *
        generalize bsB (l.take 7) = t7 at *
        generalize bsB (takeL ((l.drop 7).drop k)) = tp at *
        generalize bsB ((l.drop 7).take k) = th at *
        generalize bsB ((l.drop 7).drop k) = tq at *
        generalize bsB (l.drop 7) = t8 at *
        generalize bsB l = t at *
        go_enter Tryd.func45, Tryd.ntmps45
        go_wp2_with (first
          | (go_at_call 60; (with_reducible refine (HF.out).mono ?_); rintro e w1 ⟨rfl, hb⟩; have HB1 := Lib.hid hb; clear hb)
          | (go_at_call 61; (with_reducible refine (HI.out _).mono ?_); rintro e w2 ⟨rfl, rfl⟩))
        go_region_with (go_at_call 62; (with_reducible refine (HT.out _ HB1.out.drew).mono ?_); rintro e w3 ⟨rfl, hb⟩; have HB3 := Lib.hid (bel0 HB1.out.drew hb); clear hb)
        all_goals
          (try simp only [Exit.then])
          go_wp2
          exact bodyPost_ret (v := .tuple #[.string th, .string tp, .int .i64 0]) (by simp [results, Tryd.results45, go_sem]) rfl ⟨by rw [HE.out], HB3.out⟩
    · have hf : foldB (l.take 7) = false := by simpa using hf
      rw [hf] at HF
      have HE : Hid (fileV l = .tuple #[.string ⟨#[]⟩, .string ⟨#[]⟩, .int .i64 4]) := Lib.hid (by unfold fileV fileL; rw [if_neg (by rintro ⟨_, h⟩; rw [hf] at h; cases h)])
      clear hf h7 hl hM
      generalize fileV l = fv at *
      generalize bsB (l.take 7) = t7 at *
      generalize bsB l = t at *
      go_enter Tryd.func45, Tryd.ntmps45
      go_wp2_with (go_at_call 60; (with_reducible refine (HF.out).mono ?_); rintro e w1 ⟨rfl, hb⟩; have HB1 := Lib.hid hb; clear hb)
      exact bodyPost_ret (v := .tuple #[.string ⟨#[]⟩, .string ⟨#[]⟩, .int .i64 4]) (by simp [results, Tryd.results45, go_sem]) rfl ⟨by rw [HE.out], HB1.out⟩
  · have hs : ((bsB l).size : Int) < 7 := by rw [bsB_size]; omega
    have HE : Hid (fileV l = .tuple #[.string ⟨#[]⟩, .string ⟨#[]⟩, .int .i64 4]) := Lib.hid (by unfold fileV fileL; rw [if_neg (by omega)])
    clear h7 hl hM
    generalize fileV l = fv at *
    generalize bsB l = t at *
    go_enter Tryd.func45, Tryd.ntmps45
    go_wp2
    exact bodyPost_ret (v := .tuple #[.string ⟨#[]⟩, .string ⟨#[]⟩, .int .i64 4]) (by simp [results, Tryd.results45, go_sem]) rfl ⟨by rw [HE.out], Below.refl _ _⟩
/-- What Make answers. -/
def makeV (h p : List UInt8) : Value := if p.head? = some 47 ∧ 47 ∉ h then .tuple #[.string (bsB ([102, 105, 108, 101, 58, 47, 47] ++ h ++ layL p)), .int .i64 0] else .tuple #[.string ⟨#[]⟩, .int .i64 4]
end Go.Proofs.YtkkhlmilcdlfoaaDoor
