/- The walks of told, shell, Read. Written by mkrh.py. -/
import Derived.Test.YtkkhlmilcdlfoaaDoorRh
namespace Go.Proofs.YtkkhlmilcdlfoaaDoor
open Go.RowKit Go.Shelf

def cwdT : List UInt8 := [67, 119, 100, 61]
def toldV (l word : List UInt8) : Value := if word = [69] ∧ (fromL l 2).isSome = true then sgV 5 0 false (bsB (cut256 (unescL (third l)))) else if word = [80] ∧ Lib.hasPrefix (third l) cwdT = true then sgV 6 0 false (bsB (cut256 (unescL ((third l).drop 4)))) else zeroV
set_option maxRecDepth 100000 in
set_option maxHeartbeats 4000000 in
theorem told_any (l f : List UInt8) (word : List UInt8) (hl : l.length ≤ 1200) (w : World) (hO : OT w) : Calls Tryd.prog 44 #[.agg #[.string (bsB l), .string (bsB f)], .string (bsB word)] w fun e w' => e = .returned (toldV l word) ∧ Below w.heap.size w w' := by
  have HS := Lib.hid (RB.start w (.string (bsB l)) (.string (bsB f)))
  have HF := Lib.hid (field_any l (by omega) 2 (by decide) _ (hO.ml.past HS.out.below))
  change Hid (Calls _ _ #[.agg #[.string (bsB l)], .int .i64 2] _ fun e w' => e = .returned (.tuple #[.string (bsB (third l)), .bool (fromL l 2).isSome]) ∧ _) at HF
  have h3 := third_len l
  have HCP := Lib.hid fun W => Tryd.strings_CutPrefix (bsB (third l)) (bsB cwdT) W
  have HU := Lib.hid fun (W : World) (s : List UInt8) (hs : s.length ≤ 100000) (h : RB w W (.string (bsB l)) (.string (bsB f))) => unescape_any s hs W (hO.mt.past h.below).ev
  have e3 : (bsB word).toList = word := bs_toList _
  unfold toldV
  by_cases h1 : word = [69] ∧ (fromL l 2).isSome = true
  · rw [if_pos h1]
    obtain ⟨h1a, h1b⟩ := h1
    rw [h1b] at HF
    have hu := unescL_len _ (third l) (Nat.le_refl _)
    have HU2 := Lib.hid fun W h => HU.out W (third l) (by omega) h
    have HSY := Lib.hid fun W => saying_any 5 (unescL (third l)) (by omega) W
    have e1 : (bsB word).toList = [69] := by rw [e3, h1a]
    unfold sgV at HSY ⊢
    clear hl hO h3 h1a h1b HCP HU hu e3
    generalize bsB (cut256 (unescL (third l))) = tc at *
    generalize bsB (unescL (third l)) = tu at *
    generalize bsB (third l) = t3 at *
    generalize bsB l = t at *
    generalize bsB f = tf at *
    generalize bsB word = tw at *
    go_enter Tryd.func44, Tryd.ntmps44
    go_wp2_with (first
      | (go_at_call 20; (with_reducible refine (HF.out).mono ?_); rintro e w1 ⟨rfl, hb⟩; have HS1 := Lib.hid (HS.out.past hb); obtain ⟨⟨r0, r1⟩, ⟨c0, c1, c2, c3⟩, f0, f1, f2, f3⟩ := HS1.out.cells; clear hb)
      | (go_at_call 16; (with_reducible refine (HU2.out _ HS1.out).mono ?_); rintro e w2 ⟨rfl, hb⟩; have HS2 := Lib.hid (HS1.out.past hb); clear r0 r1 c0 c1 c2 c3 f0 f1 f2 f3; obtain ⟨⟨r0, r1⟩, ⟨c0, c1, c2, c3⟩, f0, f1, f2, f3⟩ := HS2.out.cells; clear hb)
      | (go_at_call 46; (with_reducible refine (HSY.out _).mono ?_); rintro e w3 ⟨rfl, hb⟩; have HS3 := Lib.hid (HS2.out.past hb); clear r0 r1 c0 c1 c2 c3 f0 f1 f2 f3; obtain ⟨⟨r0, r1⟩, ⟨c0, c1, c2, c3⟩, f0, f1, f2, f3⟩ := HS3.out.cells; clear hb))
    exact bodyPost_ret (v := .agg #[.int .i64 5, .int .i64 0, .bool false, .string tc]) (by simp [results, Tryd.results44, go_sem, *]) rfl ⟨rfl, below_sign HS3.out.below (by omega) _ _ _ _⟩
  rw [if_neg h1]
  by_cases h1a : word = [69]
  · have h1b : (fromL l 2).isSome = false := by
      cases h : (fromL l 2).isSome with
      | true => exact absurd ⟨h1a, h⟩ h1
      | false => rfl
    rw [if_neg (by rw [h1a]; exact fun h => absurd h.1 (by decide)), ← show sgV 0 0 false ⟨#[]⟩ = zeroV from rfl]
    rw [h1b] at HF
    have e1 : (bsB word).toList = [69] := by rw [e3, h1a]
    obtain ⟨hp, hhp⟩ : ∃ hp, hp = Lib.hasPrefix (third l) cwdT := ⟨_, rfl⟩
    have HCP2 : Hid (∀ W, Calls Tryd.prog 47 #[.string (bsB (third l)), .string ⟨#[67, 119, 100, 61]⟩] W fun e w' => e = .returned (.tuple #[.string (bsB (Lib.trimPrefix (bsB (third l)).data.toList (bsB cwdT).data.toList)), .bool (Lib.hasPrefix (bsB (third l)).data.toList (bsB cwdT).data.toList)]) ∧ Below W.heap.size W w') := Lib.hid fun W => by
      have h := HCP.out W
      exact h.mono fun e w' ⟨a, b⟩ => ⟨a, by rw [b]; exact Below.refl _ _⟩
    unfold sgV
    clear hl hO h3 h1a h1b h1 HCP HU e3 hhp
    generalize (Lib.hasPrefix (bsB (third l)).data.toList (bsB cwdT).data.toList) = hb at *
    generalize bsB (Lib.trimPrefix (bsB (third l)).data.toList (bsB cwdT).data.toList) = tp at *
    generalize bsB (third l) = t3 at *
    generalize bsB l = t at *
    generalize bsB f = tf at *
    generalize bsB word = tw at *
    go_enter Tryd.func44, Tryd.ntmps44
    go_wp2_with (first
      | (go_at_call 20; (with_reducible refine (HF.out).mono ?_); rintro e w1 ⟨rfl, hb⟩; have HS1 := Lib.hid (HS.out.past hb); obtain ⟨⟨r0, r1⟩, ⟨c0, c1, c2, c3⟩, f0, f1, f2, f3⟩ := HS1.out.cells; clear hb)
      | (go_at_call 47; (with_reducible refine (HCP2.out _).mono ?_); rintro e w2 ⟨rfl, hb⟩; have HS2 := Lib.hid (HS1.out.past hb); clear r0 r1 c0 c1 c2 c3 f0 f1 f2 f3; obtain ⟨⟨r0, r1⟩, ⟨c0, c1, c2, c3⟩, f0, f1, f2, f3⟩ := HS2.out.cells; clear hb))
    exact bodyPost_ret (v := .agg #[.int .i64 0, .int .i64 0, .bool false, .string ⟨#[]⟩]) (by simp [results, Tryd.results44, go_sem, *]) rfl ⟨rfl, below_sign HS2.out.below (by omega) _ _ _ _⟩
  have e1 : ((bsB word).toList == [69]) = false := by rw [e3]; exact beq_false_of_ne h1a
  obtain ⟨b2, hb2⟩ : ∃ b2, b2 = (fromL l 2).isSome := ⟨_, rfl⟩
  rw [← hb2] at HF
  by_cases h4 : word = [80]
  · have e2 : (bsB word).toList = [80] := by rw [e3, h4]
    by_cases h2 : Lib.hasPrefix (third l) cwdT = true
    · rw [if_pos ⟨h4, h2⟩]
      have HCP2 : Hid (∀ W, Calls Tryd.prog 47 #[.string (bsB (third l)), .string ⟨#[67, 119, 100, 61]⟩] W fun e w' => e = .returned (.tuple #[.string (bsB ((third l).drop 4)), .bool true]) ∧ Below W.heap.size W w') := Lib.hid fun W => by
        have h := HCP.out W
        rw [show Lib.hasPrefix (bsB (third l)).data.toList (bsB cwdT).data.toList = true from h2, show Lib.trimPrefix (bsB (third l)).data.toList (bsB cwdT).data.toList = (third l).drop 4 from trim_yes h2] at h
        exact h.mono fun e w' ⟨a, b⟩ => ⟨a, by rw [b]; exact Below.refl _ _⟩
      have h5 : ((third l).drop 4).length ≤ l.length := by rw [List.length_drop]; omega
      have hu := unescL_len _ ((third l).drop 4) (Nat.le_refl _)
      have HU2 := Lib.hid fun W h => HU.out W ((third l).drop 4) (by omega) h
      have HSY := Lib.hid fun W => saying_any 6 (unescL ((third l).drop 4)) (by omega) W
      unfold sgV at HSY ⊢
      clear hl hO h3 h1a h1 h4 h2 HCP HU hu e3 h5 hb2
      generalize bsB (cut256 (unescL ((third l).drop 4))) = tc at *
      generalize bsB (unescL ((third l).drop 4)) = tu at *
      generalize bsB ((third l).drop 4) = tp at *
      generalize bsB (third l) = t3 at *
      generalize bsB l = t at *
      generalize bsB f = tf at *
      generalize bsB word = tw at *
      go_enter Tryd.func44, Tryd.ntmps44
      go_wp2_with (first
        | (go_at_call 20; (with_reducible refine (HF.out).mono ?_); rintro e w1 ⟨rfl, hb⟩; have HS1 := Lib.hid (HS.out.past hb); obtain ⟨⟨r0, r1⟩, ⟨c0, c1, c2, c3⟩, f0, f1, f2, f3⟩ := HS1.out.cells; clear hb)
        | (go_at_call 47; (with_reducible refine (HCP2.out _).mono ?_); rintro e w2 ⟨rfl, hb⟩; have HS2 := Lib.hid (HS1.out.past hb); clear r0 r1 c0 c1 c2 c3 f0 f1 f2 f3; obtain ⟨⟨r0, r1⟩, ⟨c0, c1, c2, c3⟩, f0, f1, f2, f3⟩ := HS2.out.cells; clear hb)
        | (go_at_call 16; (with_reducible refine (HU2.out _ HS2.out).mono ?_); rintro e w3 ⟨rfl, hb⟩; have HS3 := Lib.hid (HS2.out.past hb); clear r0 r1 c0 c1 c2 c3 f0 f1 f2 f3; obtain ⟨⟨r0, r1⟩, ⟨c0, c1, c2, c3⟩, f0, f1, f2, f3⟩ := HS3.out.cells; clear hb)
        | (go_at_call 46; (with_reducible refine (HSY.out _).mono ?_); rintro e w4 ⟨rfl, hb⟩; have HS4 := Lib.hid (HS3.out.past hb); clear r0 r1 c0 c1 c2 c3 f0 f1 f2 f3; obtain ⟨⟨r0, r1⟩, ⟨c0, c1, c2, c3⟩, f0, f1, f2, f3⟩ := HS4.out.cells; clear hb))
      exact bodyPost_ret (v := .agg #[.int .i64 6, .int .i64 0, .bool false, .string tc]) (by simp [results, Tryd.results44, go_sem, *]) rfl ⟨rfl, below_sign HS4.out.below (by omega) _ _ _ _⟩
    · rw [if_neg (fun h => h2 h.2), ← show sgV 0 0 false ⟨#[]⟩ = zeroV from rfl]
      have h2 : Lib.hasPrefix (third l) cwdT = false := by simpa using h2
      have HCP2 : Hid (∀ W, Calls Tryd.prog 47 #[.string (bsB (third l)), .string ⟨#[67, 119, 100, 61]⟩] W fun e w' => e = .returned (.tuple #[.string (bsB (Lib.trimPrefix (third l) cwdT)), .bool false]) ∧ Below W.heap.size W w') := Lib.hid fun W => by
        have h := HCP.out W
        rw [show Lib.hasPrefix (bsB (third l)).data.toList (bsB cwdT).data.toList = false from h2] at h
        exact h.mono fun e w' ⟨a, b⟩ => ⟨a, by rw [b]; exact Below.refl _ _⟩
      unfold sgV
      clear hl hO h3 h1a h1 h4 h2 HCP HU e3 hb2
      generalize bsB (Lib.trimPrefix (third l) cwdT) = tp at *
      generalize bsB (third l) = t3 at *
      generalize bsB l = t at *
      generalize bsB f = tf at *
      generalize bsB word = tw at *
      go_enter Tryd.func44, Tryd.ntmps44
      go_wp2_with (first
        | (go_at_call 20; (with_reducible refine (HF.out).mono ?_); rintro e w1 ⟨rfl, hb⟩; have HS1 := Lib.hid (HS.out.past hb); obtain ⟨⟨r0, r1⟩, ⟨c0, c1, c2, c3⟩, f0, f1, f2, f3⟩ := HS1.out.cells; clear hb)
        | (go_at_call 47; (with_reducible refine (HCP2.out _).mono ?_); rintro e w2 ⟨rfl, hb⟩; have HS2 := Lib.hid (HS1.out.past hb); clear r0 r1 c0 c1 c2 c3 f0 f1 f2 f3; obtain ⟨⟨r0, r1⟩, ⟨c0, c1, c2, c3⟩, f0, f1, f2, f3⟩ := HS2.out.cells; clear hb))
      exact bodyPost_ret (v := .agg #[.int .i64 0, .int .i64 0, .bool false, .string ⟨#[]⟩]) (by simp [results, Tryd.results44, go_sem, *]) rfl ⟨rfl, below_sign HS2.out.below (by omega) _ _ _ _⟩
  · rw [if_neg (fun h => h4 h.1), ← show sgV 0 0 false ⟨#[]⟩ = zeroV from rfl]
    have e2 : ((bsB word).toList == [80]) = false := by rw [e3]; exact beq_false_of_ne h4
    have HCP2 : Hid (∀ W, Calls Tryd.prog 47 #[.string (bsB (third l)), .string ⟨#[67, 119, 100, 61]⟩] W fun e w' => e = .returned (.tuple #[.string (bsB (Lib.trimPrefix (bsB (third l)).data.toList (bsB cwdT).data.toList)), .bool (Lib.hasPrefix (bsB (third l)).data.toList (bsB cwdT).data.toList)]) ∧ Below W.heap.size W w') := Lib.hid fun W => by
      have h := HCP.out W
      exact h.mono fun e w' ⟨a, b⟩ => ⟨a, by rw [b]; exact Below.refl _ _⟩
    unfold sgV
    clear hl hO h3 h1a h1 h4 HCP HU e3 hb2
    generalize (Lib.hasPrefix (bsB (third l)).data.toList (bsB cwdT).data.toList) = hb at *
    generalize bsB (Lib.trimPrefix (bsB (third l)).data.toList (bsB cwdT).data.toList) = tp at *
    generalize bsB (third l) = t3 at *
    generalize bsB l = t at *
    generalize bsB f = tf at *
    generalize bsB word = tw at *
    go_enter Tryd.func44, Tryd.ntmps44
    go_wp2_with (first
      | (go_at_call 20; (with_reducible refine (HF.out).mono ?_); rintro e w1 ⟨rfl, hb⟩; have HS1 := Lib.hid (HS.out.past hb); obtain ⟨⟨r0, r1⟩, ⟨c0, c1, c2, c3⟩, f0, f1, f2, f3⟩ := HS1.out.cells; clear hb)
      | (go_at_call 47; (with_reducible refine (HCP2.out _).mono ?_); rintro e w2 ⟨rfl, hb⟩; have HS2 := Lib.hid (HS1.out.past hb); clear r0 r1 c0 c1 c2 c3 f0 f1 f2 f3; obtain ⟨⟨r0, r1⟩, ⟨c0, c1, c2, c3⟩, f0, f1, f2, f3⟩ := HS2.out.cells; clear hb))
    exact bodyPost_ret (v := .agg #[.int .i64 0, .int .i64 0, .bool false, .string ⟨#[]⟩]) (by simp [results, Tryd.results44, go_sem, *]) rfl ⟨rfl, below_sign HS2.out.below (by omega) _ _ _ _⟩
end Go.Proofs.YtkkhlmilcdlfoaaDoor
