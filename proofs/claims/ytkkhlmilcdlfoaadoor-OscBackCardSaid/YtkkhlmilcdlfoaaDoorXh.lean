/- The walks of the document's Plain, digit, Lay, Take, File. Written by mkxh.py. -/
import Derived.Test.YtkkhlmilcdlfoaaDoorXg
import Derived.Test.YtkkhlmilcdlfoaaDoorKi
namespace Go.Proofs.YtkkhlmilcdlfoaaDoor
open Go.RowKit

def plLit : List UInt8 := [97, 98, 99, 100, 101, 102, 103, 104, 105, 106, 107, 108, 109, 110, 111, 112, 113, 114, 115, 116, 117, 118, 119, 120, 121, 122, 65, 66, 67, 68, 69, 70, 71, 72, 73, 74, 75, 76, 77, 78, 79, 80, 81, 82, 83, 84, 85, 86, 87, 88, 89, 90, 48, 49, 50, 51, 52, 53, 54, 55, 56, 57, 45, 46, 95, 126, 47]
def dgLit : List UInt8 := [48, 49, 50, 51, 52, 53, 54, 55, 56, 57, 97, 98, 99, 100, 101, 102, 48, 49, 50, 51, 52, 53, 54, 55, 56, 57, 65, 66, 67, 68, 69, 70]
theorem plLit_has : ∀ c : Fin 256, plB (UInt8.ofNat c.val) = plLit.contains (UInt8.ofNat c.val) := by decide +kernel
theorem plB_has (c : UInt8) : plB c = plLit.contains c := by
  have h := plLit_has ⟨c.toNat, c.toNat_lt⟩
  simpa using h
/-- What the document's digit answers. -/
def dgV (c : UInt8) : Int := match hexV c with
  | some v => v
  | none => -1
theorem dgLit_has : ∀ c : Fin 256, dgV (UInt8.ofNat c.val) = (match dgLit.idxOf? (UInt8.ofNat c.val) with | some k => ((k % 16 : Nat) : Int) | none => -1) := by decide +kernel
theorem dgV_has (c : UInt8) : dgV c = (match dgLit.idxOf? c with | some k => ((k % 16 : Nat) : Int) | none => -1) := by
  have h := dgLit_has ⟨c.toNat, c.toNat_lt⟩
  rw [show UInt8.ofNat (⟨c.toNat, c.toNat_lt⟩ : Fin 256).val = c by simp] at h
  exact h
theorem idx_first {l : List UInt8} {c : UInt8} {k : Nat} (h : l[k]? = some c) (hn : ∀ j, j < k → l[j]? ≠ some c) : l.idxOf? c = some k := by
  induction l generalizing k with
  | nil => simp at h
  | cons b r ih =>
    rw [List.idxOf?_cons]
    cases k with
    | zero =>
      have : b = c := by simpa using h
      subst this
      simp
    | succ k =>
      have hb : (b == c) = false := by
        rw [beq_eq_false_iff_ne]
        intro e
        exact hn 0 (by omega) (by simp [e])
      rw [hb]
      rw [ih (by simpa using h) (fun j hj => by simpa using hn (j + 1) (by omega))]
      rfl
theorem idx_never {l : List UInt8} {c : UInt8} (hn : ∀ j, j < l.length → l[j]? ≠ some c) : l.idxOf? c = none := by
  rw [List.idxOf?_eq_none_iff]
  intro hm
  obtain ⟨j, hj, e⟩ := List.getElem_of_mem hm
  exact hn j hj (by rw [List.getElem?_eq_getElem hj, e])
set_option maxRecDepth 100000 in
set_option maxHeartbeats 1000000 in
theorem refDigit_any (c : UInt8) (w : World) : Calls Tryd.prog 65 #[.int .u8 c.toNat] w fun e w' => e = .returned (.int .i64 (dgV c)) ∧ w' = w := by
  have HI := Lib.hid (idx_bs dgLit)
  have hsz : ((bsB dgLit).size : Int) = 32 := by rw [bsB_size]; rfl
  obtain ⟨TL, hTL⟩ : ∃ t, t = bsB dgLit := ⟨_, rfl⟩
  rw [← hTL] at hsz HI
  replace hTL := Lib.hid hTL
  obtain ⟨r, hr⟩ : ∃ r : Int, r = dgV c := ⟨_, rfl⟩
  rw [← hr]
  have HYES : Hid (∀ k z, dgLit[k]? = some z → z = c → (∀ j, j < k → dgLit[j]? ≠ some c) → r = ((k % 16 : Nat) : Int)) := Lib.hid fun k z h1 h2 h3 => by
    subst h2
    rw [hr]
    have h := idx_first h1 h3
    rw [dgV_has, h]
  have HNO : Hid ((∀ j, j < 32 → dgLit[j]? ≠ some c) → r = -1) := Lib.hid fun h => by
    rw [hr]
    have h := idx_never (l := dgLit) (c := c) h
    rw [dgV_has, h]
  clear hr
  go_enter Tryd.func65, Tryd.ntmps65
  go_wp2
  rw [show (⟨#[48, 49, 50, 51, 52, 53, 54, 55, 56, 57, 97, 98, 99, 100, 101, 102, 48, 49, 50, 51, 52, 53, 54, 55, 56, 57, 65, 66, 67, 68, 69, 70]⟩ : ByteArray) = TL from (by rw [hTL.out]; rfl)]
  go_loopw [4] (fun q wr => wr = w ∧ ∃ k : Nat, q = .int .i64 k ∧ k ≤ 32 ∧ Hid (∀ j, j < k → dgLit[j]? ≠ some c)) (fun q _ => 32 - (intOf q).toNat)
  case atStart => exact ⟨rfl, 0, rfl, by omega, Lib.hid (fun j hj => by omega)⟩
  case round =>
    obtain ⟨rfl, k, rfl, hk, HK⟩ := hrel
    by_cases hlt : k < 32
    · have hlk : k < dgLit.length := hlt
      have hz := List.getElem?_eq_getElem hlk
      have hix := HI.out k _ hz
      have HY := Lib.hid (HYES.out k _ hz)
      have HN : Hid (dgLit[k] ≠ c → ∀ j, j < k + 1 → dgLit[j]? ≠ some c) := Lib.hid fun h j hj => by
        rcases (by omega : j < k ∨ j = k) with h1 | rfl
        · exact HK.out j h1
        · rw [hz]; exact fun e => h (Option.some.inj e)
      generalize dgLit[k] = z at *
      clear hz
      by_cases hzc : z = c
      · have HR := Lib.hid (HY.out hzc HK.out)
        subst hzc
        clear HN HY HK
        generalize z.toNat = zn at *
        go_wp2
        go_ret
        exact ⟨by rw [HR.out]; rfl, rfl⟩
      · have hne : ((z.toNat : Int) == c.toNat) = false := by
          have : z.toNat ≠ c.toNat := fun e => hzc (UInt8.toNat_inj.1 e)
          simp; omega
        have hne2 : ¬ ((z.toNat : Int) = c.toNat) := by simpa using hne
        have HK2 := Lib.hid (HN.out hzc)
        clear HN HY HK hzc
        generalize z.toNat = zn at *
        generalize c.toNat = cn at *
        go_wp2
        go_roundw
        case rel => exact ⟨by trivial, k + 1, by go_num, hlt, HK2⟩
        case measure => simp [intOf]; omega
    · obtain rfl : k = 32 := by omega
      have HR := Lib.hid (HNO.out HK.out)
      clear HK HYES HNO
      go_wp2
      go_ret
      exact ⟨by rw [HR.out]; rfl, rfl⟩
theorem layL_snoc (l : List UInt8) (k : Nat) (h : k < l.length) : layL (l.take (k + 1)) = layL (l.take k) ++ lay1 (l[k]'h) := by
  rw [List.take_succ_eq_append_getElem h, layL_app]
  simp [layL]
/-- What the document's Take answers beside the text. -/
def allL : List UInt8 → Bool
  | [] => true
  | c :: r => match pct1 (c :: r) with
    | some _ => allL (r.drop 2)
    | none => (c != 37) && allL r
termination_by s => s.length
decreasing_by
  all_goals simp
  all_goals omega
theorem allL_cons (c : UInt8) (r : List UInt8) : allL (c :: r) = match pct1 (c :: r) with | some _ => allL (r.drop 2) | none => (c != 37) && allL r := by
  rw [allL]
theorem allL_nil : allL [] = true := by rw [allL]
theorem all_strict : ∀ (n : Nat) (s : List UInt8), s.length ≤ n → allL s = strictL s
  | 0, s, h => by
    obtain rfl : s = [] := List.eq_nil_of_length_eq_zero (by omega)
    rw [allL_nil]; rfl
  | n + 1, [], _ => by rw [allL_nil]; rfl
  | n + 1, c :: r, h => by
    rw [allL_cons]
    simp only [List.length_cons] at h
    cases hp : pct1 (c :: r) with
    | some x =>
      show allL (r.drop 2) = ((c != 37 || (pct1 (c :: r)).isSome) && strictL r)
      rw [all_strict n (r.drop 2) (by rw [List.length_drop]; omega), hp]
      match r, hp with
      | a :: b :: r', hp =>
        have hc : c = 37 := Classical.byContradiction fun hc => by rw [pct1_ne hc] at hp; cases hp
        subst hc
        rw [pct1_37] at hp
        rw [strict_skip hp]
        simp
      | [], hp => rw [pct1_short (by simp)] at hp; cases hp
      | [_], hp => rw [pct1_short (by simp)] at hp; cases hp
    | none =>
      show ((c != 37) && allL r) = ((c != 37 || (pct1 (c :: r)).isSome) && strictL r)
      rw [all_strict n r (by omega), hp]
      simp
theorem dgV_some {c : UInt8} {v : Nat} (h : hexV c = some v) : dgV c = v := by unfold dgV; rw [h]
theorem dgV_none {c : UInt8} (h : hexV c = none) : dgV c = -1 := by unfold dgV; rw [h]
theorem byteInfo : (Tryd.prog.info? 5).map (fun i => (i.zero, i.size, i.bytes)) = some (some (.int .u8 0), 1, 1) := by kernel_rfl
set_option maxRecDepth 100000 in
theorem conv_own {w : World} {B n c : Nat} {A : Option Addr} {T : List UInt8} (h : w.ownsRow B 5 1 (.slice A n c) n (Lib.byteCells T)) (hn : n = T.length) :
    (Go.convert 46 9 (.slice A n c)).run Tryd.prog w = .ok (.string (bsB T)) w := by
  subst hn
  by_cases hz : T = []
  · subst hz
    rw [List.length_nil, run_convert_bytes_string w _ _ 5 A 0 c (by kernel_rfl) (by kernel_rfl) (by kernel_rfl)]
    cases A <;> rfl
  · obtain ⟨A', c', e, hA⟩ := own_form h
    injection e with e1 _ _
    subst e1
    obtain ⟨g, rfl⟩ := hA (List.length_pos_iff.2 hz)
    exact run_convert_bytes_back (P := Tryd.prog) w 46 9 5 ⟨g, 0, none⟩ c T (by kernel_rfl) (by kernel_rfl) (by kernel_rfl) (fun j hj => by
      have ea : (⟨g, 0, none⟩ : Addr).add j = ⟨g, j, none⟩ := by
        unfold Addr.add
        split <;> simp_all
      rw [ea, h.cellAt j (by omega), Lib.byteCells, List.getElem?_map, List.getElem?_eq_getElem hj]
      rfl)
end Go.Proofs.YtkkhlmilcdlfoaaDoor
