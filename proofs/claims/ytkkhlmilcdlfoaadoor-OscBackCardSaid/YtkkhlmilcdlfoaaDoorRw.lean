/- The document's Escape; escaped text, plain. -/
import Derived.Test.YtkkhlmilcdlfoaaDoorXj
import Derived.Test.YtkkhlmilcdlfoaaDoorRf
namespace Go.Proofs.YtkkhlmilcdlfoaaDoor
open Go.RowKit

def hexW (k : Nat) : UInt8 := if k < 10 then UInt8.ofNat (48 + k) else UInt8.ofNat (87 + k)
def hexLow : List UInt8 := [48, 49, 50, 51, 52, 53, 54, 55, 56, 57, 97, 98, 99, 100, 101, 102]
/-- Whether a byte is escaped by its number. -/
def numB (c : UInt8) : Bool := decide (c.toNat ≤ 32) || decide (c.toNat = 59)
/-- A byte, escaped. -/
def escB (c : UInt8) : List UInt8 := if c = 92 then [92, 92] else if numB c then [92, 120, hexW (c.toNat / 16), hexW (c.toNat % 16)] else [c]
def escL : List UInt8 → List UInt8
  | [] => []
  | c :: r => escB c ++ escL r
theorem escL_app (l m : List UInt8) : escL (l ++ m) = escL l ++ escL m := by
  induction l with
  | nil => rfl
  | cons c r ih => show escB c ++ escL (r ++ m) = (escB c ++ escL r) ++ escL m; rw [ih, List.append_assoc]
theorem escB_len (c : UInt8) : (escB c).length ≤ 4 := by
  unfold escB
  split
  · decide
  · split <;> simp
theorem escL_len (l : List UInt8) : (escL l).length ≤ 4 * l.length := by
  induction l with
  | nil => exact Nat.le_refl _
  | cons c r ih =>
    show (escB c ++ escL r).length ≤ _
    have := escB_len c
    rw [List.length_append, List.length_cons]; omega
theorem hexW_ok : ∀ n : Fin 256, hex2 (hexW (n.val / 16)) (hexW (n.val % 16)) = some (UInt8.ofNat n.val) := by decide +kernel
theorem hex2_W (c : UInt8) : hex2 (hexW (c.toNat / 16)) (hexW (c.toNat % 16)) = some c := by
  have h := hexW_ok ⟨c.toNat, c.toNat_lt⟩
  rw [h]
  show some (UInt8.ofNat c.toNat) = some c
  rw [UInt8.ofNat_toNat]
/-- What is escaped means the text. -/
theorem unesc_esc : ∀ l : List UInt8, unescL (escL l) = l
  | [] => unescL_nil
  | c :: r => by
    show unescL (escB c ++ escL r) = c :: r
    unfold escB
    by_cases hc : c = 92
    · subst hc
      rw [if_pos rfl]
      show unescL (92 :: 92 :: escL r) = _
      rw [unescL_cons, esc1_bb]
      show 92 :: unescL (escL r) = _
      rw [unesc_esc r]
    · rw [if_neg hc]
      by_cases hn : numB c = true
      · rw [if_pos hn]
        show unescL (92 :: 120 :: hexW (c.toNat / 16) :: hexW (c.toNat % 16) :: escL r) = _
        rw [unescL_cons, esc1_x, hex2_W]
        show c :: unescL (escL r) = _
        rw [unesc_esc r]
      · rw [if_neg hn]
        show unescL (c :: escL r) = _
        rw [unescL_cons, esc1_ne hc]
        show c :: unescL (escL r) = _
        rw [unesc_esc r]
/-- No byte of escaped text is one that is escaped by its number. -/
theorem hexW_num : ∀ n : Fin 16, numB (hexW n.val) = false := by decide
theorem escB_fine (c : UInt8) : ∀ x ∈ escB c, numB x = false := by
  unfold escB
  intro x hx
  split at hx
  · have : x = 92 := by simpa using hx
    subst this; decide
  · split at hx
    · have h : x = 92 ∨ x = 120 ∨ x = hexW (c.toNat / 16) ∨ x = hexW (c.toNat % 16) := by simpa using hx
      have hl := c.toNat_lt
      rcases h with rfl | rfl | rfl | rfl
      · decide
      · decide
      · exact hexW_num ⟨c.toNat / 16, by omega⟩
      · exact hexW_num ⟨c.toNat % 16, by omega⟩
    · rename_i h
      have : x = c := by simpa using hx
      subst this
      cases hq : numB x with
      | true => exact absurd hq h
      | false => rfl
theorem escL_fine : ∀ l : List UInt8, ∀ x ∈ escL l, numB x = false
  | [], x, hx => by cases hx
  | c :: r, x, hx => by
    rcases List.mem_append.1 (show x ∈ escB c ++ escL r from hx) with h | h
    · exact escB_fine c x h
    · exact escL_fine r x h
-- WALK
theorem escL_snoc (l : List UInt8) (k : Nat) (h : k < l.length) : escL (l.take (k + 1)) = escL (l.take k) ++ escB (l[k]'h) := by
  rw [List.take_succ_eq_append_getElem h, escL_app]
  simp [escL]
set_option maxRecDepth 100000 in
set_option maxHeartbeats 4000000 in
theorem refEscape_any (l : List UInt8) (hl : l.length ≤ 10000) (w : World) : Calls Tryd.prog 15 #[.string (bsB l)] w fun e w' => e = .returned (.string (bsB (escL l))) ∧ Below w.heap.size w w' := by
  have HSZ : Hid ((bsB l).size = l.length) := Lib.hid (bsB_size l)
  have hsz : ((bsB l).size : Int) = l.length := by rw [bsB_size]
  have HI := Lib.hid (idx_bs l)
  have HX := Lib.hid (bs_extract l)
  have HH : Hid (∀ k : Nat, k < 16 → (⟨#[48, 49, 50, 51, 52, 53, 54, 55, 56, 57, 97, 98, 99, 100, 101, 102]⟩ : ByteArray).extract k (k + 1) = bsB [hexW k]) := Lib.hid fun k hk => by
    have h : ∀ k : Fin 16, (hexLow.drop k.val).take (k.val + 1 - k.val) = [hexW k.val] := by decide
    rw [show (⟨#[48, 49, 50, 51, 52, 53, 54, 55, 56, 57, 97, 98, 99, 100, 101, 102]⟩ : ByteArray) = bsB hexLow from rfl, bs_extract, h ⟨k, hk⟩]
  have HL := Lib.hid hl
  obtain ⟨s, hs⟩ : ∃ s, s = bsB l := ⟨_, rfl⟩
  rw [← hs] at HSZ hsz HI HX ⊢
  clear hs hl
  obtain ⟨res, hres⟩ : ∃ res, res = bsB (escL l) := ⟨_, rfl⟩
  rw [← hres]
  have HR := Lib.hid hres
  clear hres
  go_enter Tryd.func15, Tryd.ntmps15
  go_wp2
  go_loopw [3, 5] (fun o q wr => ∃ k : Nat, q = .int .i64 k ∧ k ≤ l.length ∧ o = .string (bsB (escL (l.take k))) ∧ Hid (Below w.heap.size w wr)) (fun _ q _ => l.length - (intOf q).toNat)
  case atStart => exact ⟨0, rfl, Nat.zero_le _, rfl, Lib.hid (Below.refl _ _)⟩
  case round =>
    obtain ⟨k, rfl, hk, rfl, HB⟩ := hrel
    by_cases hlt : k < l.length
    · have hix := HI.out k _ (List.getElem?_eq_getElem hlt)
      have HSN := Lib.hid (escL_snoc l k hlt)
      have hx1 : s.extract k (k + 1) = bsB [l[k]'hlt] := by rw [HX.out, List.drop_eq_getElem_cons hlt, show k + 1 - k = 1 by omega]; rfl
      have hll : (bsB (escL (l.take k))).size ≤ 40000 := by
        rw [bsB_size]
        have h1 := escL_len (l.take k)
        have h2 := HL.out
        rw [List.length_take] at h1
        omega
      have hl10 := HL.out
      generalize l[k]'hlt = c at *
      have HAP := Lib.hid fun m => bsB_app (escL (l.take k)) m
      generalize hlk : escL (l.take k) = lk at *
      clear hlk
      have hn : c.toNat < 256 := c.toNat_lt
      by_cases h92 : c = 92
      · have hc : (c.toNat : Int) = 92 := by rw [h92]; rfl
        have HJ : Hid (bsB lk ++ ⟨#[92, 92]⟩ = bsB (escL (l.take (k + 1)))) := Lib.hid (by rw [show (⟨#[92, 92]⟩ : ByteArray) = bsB [92, 92] from rfl, HAP.out, HSN.out]; unfold escB; rw [if_pos h92])
        clear HAP HSN h92 hx1
        generalize hnx : bsB (escL (l.take (k + 1))) = nx at *
        replace hnx := Lib.hid hnx
        generalize bsB lk = v at *
        generalize c.toNat = n at *
        generalize l.length = m at *
        go_wp2
        go_roundw
        case rel => exact ⟨k + 1, by go_num, hlt, by rw [HJ.out, hnx.out], HB⟩
        case measure => simp [intOf]; omega
      · have hne : ¬ ((c.toNat : Int) = 92) := fun e => h92 (UInt8.toNat_inj.1 (by show c.toNat = 92; omega))
        by_cases hp : numB c = true
        · have HJ : Hid (bsB lk ++ ⟨#[92, 120]⟩ ++ bsB [hexW (c.toNat / 16)] ++ bsB [hexW (c.toNat % 16)] = bsB (escL (l.take (k + 1)))) := Lib.hid (by
            rw [show (⟨#[92, 120]⟩ : ByteArray) = bsB [92, 120] from rfl, HAP.out, bsB_app, bsB_app, HSN.out]; unfold escB; rw [if_neg h92, if_pos hp]; simp)
          have hx2 := HH.out (c.toNat / 16) (by omega)
          have hx3 := HH.out (c.toNat % 16) (by omega)
          have hq : ((c.toNat : Int) / 16) = ((c.toNat / 16 : Nat) : Int) := by omega
          have hr : ((c.toNat : Int) % 16) = ((c.toNat % 16 : Nat) : Int) := by omega
          have hq2 : c.toNat / 16 < 16 := by omega
          have hr2 : c.toNat % 16 < 16 := by omega
          have s1 : (bsB [hexW (c.toNat / 16)]).size = 1 := bsB_size _
          have s2 : (bsB [hexW (c.toNat % 16)]).size = 1 := bsB_size _
          have hcs : c.toNat ≤ 32 ∨ c.toNat = 59 := by simpa [numB] using hp
          clear hp HAP HSN hx1 h92
          generalize hnx : bsB (escL (l.take (k + 1))) = nx at *
          replace hnx := Lib.hid hnx
          generalize bsB [hexW (c.toNat / 16)] = u1 at *
          generalize bsB [hexW (c.toNat % 16)] = u2 at *
          generalize bsB lk = v at *
          generalize c.toNat / 16 = q at *
          generalize c.toNat % 16 = r at *
          generalize c.toNat = n at *
          generalize l.length = m at *
          rcases hcs with hcs | hcs
          · go_wp2
            go_region
            simp only [Exit.inBlock, Exit.then]
            go_wp2
            go_roundw
            case rel => exact ⟨k + 1, by go_num, hlt, by rw [HJ.out, hnx.out], Lib.hid HB.out.drew⟩
            case measure => simp [intOf]; omega
          · obtain rfl : q = 3 := by omega
            obtain rfl : r = 11 := by omega
            have hy2 : (⟨#[48, 49, 50, 51, 52, 53, 54, 55, 56, 57, 97, 98, 99, 100, 101, 102]⟩ : ByteArray).extract 3 4 = u1 := hx2
            have hy3 : (⟨#[48, 49, 50, 51, 52, 53, 54, 55, 56, 57, 97, 98, 99, 100, 101, 102]⟩ : ByteArray).extract 11 12 = u2 := hx3
            have HJ2 : Hid (v ++ ⟨#[92, 120]⟩ ++ (⟨#[48, 49, 50, 51, 52, 53, 54, 55, 56, 57, 97, 98, 99, 100, 101, 102]⟩ : ByteArray).extract 3 4 ++ (⟨#[48, 49, 50, 51, 52, 53, 54, 55, 56, 57, 97, 98, 99, 100, 101, 102]⟩ : ByteArray).extract 11 12 = nx) := Lib.hid (by rw [hy2, hy3]; exact HJ.out)
            have t1 : ((⟨#[48, 49, 50, 51, 52, 53, 54, 55, 56, 57, 97, 98, 99, 100, 101, 102]⟩ : ByteArray).extract 3 4).size = 1 := by rw [hy2]; exact s1
            have t2 : ((⟨#[48, 49, 50, 51, 52, 53, 54, 55, 56, 57, 97, 98, 99, 100, 101, 102]⟩ : ByteArray).extract 11 12).size = 1 := by rw [hy3]; exact s2
            clear hy2 hy3 hx2 hx3
            go_wp2
            go_region
            simp only [Exit.inBlock, Exit.then]
            go_wp2
            go_roundw
            case rel => exact ⟨k + 1, by go_num, hlt, by rw [HJ2.out, hnx.out], Lib.hid HB.out.drew⟩
            case measure => simp [intOf]; omega
        · have hcs : ¬ (c.toNat ≤ 32) ∧ ¬ (c.toNat = 59) := by simpa [numB] using hp
          obtain ⟨hcs1, hcs2⟩ := hcs
          have hb1 : (33 : Int) ≤ c.toNat := by omega
          have hb2 : ¬ ((c.toNat : Int) = 59) := by omega
          have hb4 : ((c.toNat : Int) == 59) = false := by simp; omega
          have h1 : (bsB [c]).size = 1 := bsB_size _
          have HJ : Hid (bsB lk ++ bsB [c] = bsB (escL (l.take (k + 1)))) := Lib.hid (by rw [HAP.out, HSN.out]; unfold escB; rw [if_neg h92, if_neg hp])
          clear hp HAP HSN h92
          generalize hnx : bsB (escL (l.take (k + 1))) = nx at *
          replace hnx := Lib.hid hnx
          generalize bsB [c] = u at *
          generalize bsB lk = v at *
          generalize c.toNat = n at *
          generalize l.length = m at *
          go_wp2
          go_roundw
          case rel => exact ⟨k + 1, by go_num, hlt, by rw [HJ.out, hnx.out], HB⟩
          case measure => simp [intOf]; omega
    · obtain rfl : k = l.length := by omega
      have hR : bsB (escL (l.take l.length)) = res := by rw [List.take_length, HR.out]
      have HR2 := Lib.hid hR
      generalize bsB (escL (l.take l.length)) = v at *
      clear hR
      go_wp2
      go_ret
      exact ⟨by rw [HR2.out]; rfl, HB.out⟩
end Go.Proofs.YtkkhlmilcdlfoaaDoor
