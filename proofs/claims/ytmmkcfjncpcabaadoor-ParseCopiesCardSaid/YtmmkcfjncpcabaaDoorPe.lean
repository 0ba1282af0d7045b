/- The walks of pieces with Parse's inner function, and of Parse's outer function. -/
import Derived.Test.YtmmkcfjncpcabaaDoorPd
namespace Go.Proofs.YtmmkcfjncpcabaaDoor
open Go.RowKit

theorem cut_len (c : UInt8) (l : List UInt8) : (Lib.cut l [c]).1.length ≤ l.length ∧ (Lib.cut l [c]).2.1.length ≤ l.length := by
  unfold Lib.cut
  split <;> simp
  omega
theorem below_drewN {B : Nat} {a w : World} (h : Below B a w) (n : Nat) : Below B a (w.drewN n) := ⟨h.os, h.tape, h.output, h.size, h.block⟩

def piecesIn_anyPost (l : List UInt8) (w0 : World) (gb : Nat) (e : Ending) (w' : World) : Prop := ∃ v', e = .returned (.tuple #[]) ∧ GI w0 w' gb (((splitB 58 l).take 8).map numZ) v'
set_option maxRecDepth 100000 in
set_option maxHeartbeats 4000000 in
theorem piecesIn_any (s : ByteArray) (gb : Nat) (w0 w : World) (vg : Value) (hI : GI w0 w gb [] vg) (hs : s.size ≤ 1000000) (hd : ∀ x ∈ s.data.toList, 48 ≤ x.toNat ∧ x.toNat ≤ 58) (ml : Int) (hm : w0.cell? ⟨2, 0, none⟩ = some (.int .i64 ml)) (hmb : 2 < gb) :
    Calls Tryd.prog 66 #[.string s, .string ⟨#[58]⟩, .int .i64 8, .func (.func 68) #[] #[.pointer (some ⟨gb, 0, none⟩)]] w (piecesIn_anyPost s.data.toList w0 gb) := by
  have HS := Lib.hid hI
  have HD := Lib.hid hd
  have HM := Lib.hid hm
  have HSZ : Hid (s.data.toList.length ≤ 1000000) := Lib.hid (by simpa using hs)
  clear hI hd hm
  go_enter Tryd.func66, Tryd.ntmps66
  go_wp2
  go_loopw [0, 8, 9] (fun r m n wr => ∃ (k : Nat) (rs : ByteArray) (mb : Bool) (done : List (List UInt8)) (v : Value), r = .string rs ∧ m = .bool mb ∧ n = .int .i64 k ∧ k ≤ 8 ∧ rs.size ≤ 1000000 ∧ Hid (done.length = k) ∧ Hid (GI w0 wr gb (done.map numZ) v) ∧ Hid (splitB 58 s.data.toList = if mb then done ++ splitB 58 rs.data.toList else done)) (fun _ _ n _ => 8 - (intOf n).toNat)
  case atStart => exact ⟨0, s, true, [], vg, rfl, rfl, rfl, Nat.zero_le _, hs, Lib.hid rfl, HS, Lib.hid rfl⟩
  case round =>
    obtain ⟨k, rs, mb, done, v, rfl, rfl, rfl, hk, hrs, HK, HG, HZ⟩ := hrel
    cases mb with
    | false =>
      have HE : Hid (((splitB 58 s.data.toList).take 8).map numZ = done.map numZ) := Lib.hid (by
        have h := HZ.out
        rw [if_neg (by decide)] at h
        rw [h, List.take_of_length_le (by rw [HK.out]; exact hk)])
      go_wp2
      go_end0
      exact ⟨v, rfl, by rw [HE.out]; exact HG.out⟩
    | true =>
      by_cases hlt : k < 8
      · have hki : (k : Int) < 8 := by omega
        have hcut := cut_split 58 rs.data.toList
        have hcl := cut_len 58 rs.data.toList
        have HB := Lib.hid HG.out.below
        have HC : Hid (Calls Tryd.prog 79 #[.string rs, .string ⟨#[58]⟩] wr fun e w' => e = .returned (.tuple #[.string ⟨(Lib.cut rs.data.toList [58]).1.toArray⟩, .string ⟨(Lib.cut rs.data.toList [58]).2.1.toArray⟩, .bool (Lib.cut rs.data.toList [58]).2.2]) ∧ Below wr.heap.size wr w') := Lib.hid
          ((Tryd.strings_Cut rs ⟨#[58]⟩ ml wr (by omega) ((HG.out.below.cell (p := ⟨2, 0, none⟩) hmb).trans HM.out)).mono fun e w' ⟨h1, n, h2⟩ => ⟨h1, h2 ▸ below_drewN (Below.refl _ _) n⟩)
        generalize Lib.cut rs.data.toList [58] = t at *
        obtain ⟨a, b, f⟩ := t
        have HCUT := Lib.hid hcut
        have hal : a.length ≤ 1000000 := by
          have := hcl.1
          simp at this
          omega
        have hbl : b.length ≤ 1000000 := by
          have := hcl.2
          simp at this
          omega
        have HA : Hid (a ∈ splitB 58 s.data.toList) := Lib.hid (by
          have h := HZ.out
          rw [if_pos rfl] at h
          rw [h]
          rcases HCUT.out with ⟨_, h2⟩ | ⟨_, h2, h3, _⟩
          · rw [h2]; simp
          · rw [h2]
            simp only at h3
            rw [← h3]; simp)
        have HAD : Hid (∀ x ∈ a, 48 ≤ x.toNat ∧ x.toNat ≤ 57) := Lib.hid fun x hx => by
          have h1 := HD.out x (split_in 58 _ a HA.out x hx)
          have h2 : x ≠ 58 := fun e => split_out 58 _ a HA.out (e ▸ hx)
          have h3 : x.toNat ≠ 58 := fun e => h2 (UInt8.toNat_inj.1 (by rw [e]; rfl))
          omega
        have HCL : Hid (∀ W, Below wr.heap.size wr W → Calls Tryd.prog 68 #[.string ⟨a.toArray⟩, .pointer (some ⟨gb, 0, none⟩)] W fun e w' => ∃ v', e = .returned (.tuple #[]) ∧ GI w0 w' gb (done.map numZ ++ [numZ a]) v') := Lib.hid fun W hW => by
          have h := clo11_any ⟨a.toArray⟩ gb (done.map numZ) v w0 W (HG.out.past hW) (by rw [List.length_map, HK.out]; omega) (by simpa [ByteArray.size] using hal) (by simpa using HAD.out)
          simpa using h
        have HSN : Hid (done.map numZ ++ [numZ a] = (done ++ [a]).map numZ) := Lib.hid (by simp)
        have HK1 : Hid ((done ++ [a]).length = k + 1) := Lib.hid (by rw [List.length_append, HK.out]; rfl)
        have HZ1 : Hid (splitB 58 s.data.toList = if f then (done ++ [a]) ++ splitB 58 b else done ++ [a]) := Lib.hid (by
          have h := HZ.out
          rw [if_pos rfl] at h
          rw [h]
          rcases HCUT.out with ⟨h1, h2⟩ | ⟨h1, h2, h3, _⟩
          · simp only at h1
            subst h1
            rw [if_pos rfl, h2]
            simp
          · simp only at h1 h3
            subst h1
            rw [if_neg (by decide), h2, ← h3])
        have hbz : (⟨b.toArray⟩ : ByteArray).size ≤ 1000000 := by simpa [ByteArray.size] using hbl
        have hbd : Hid ((⟨b.toArray⟩ : ByteArray).data.toList = b) := Lib.hid (by simp)
        simp only at HC
        have hmk : decide (k < 8) = true := decide_eq_true hlt
        clear hcut hcl HCUT hal hbl HA HAD HZ HK HD HM HG hlt
        obtain ⟨pa, hpa⟩ : ∃ pa : ByteArray, pa = ⟨a.toArray⟩ := ⟨_, rfl⟩
        obtain ⟨pb, hpb⟩ : ∃ pb : ByteArray, pb = ⟨b.toArray⟩ := ⟨_, rfl⟩
        rw [← hpa] at HC HCL
        rw [← hpb] at HC hbz hbd
        clear hpa hpb
        go_wp2_with (first
          | (go_at_call 79; (with_reducible refine HC.out.mono ?_); rintro e w3 ⟨rfl, hb3⟩; have HB3 := Lib.hid hb3; clear hb3)
          | (go_at_call 68; (with_reducible refine (HCL.out _ HB3.out).mono ?_); rintro e w4 ⟨v4, rfl, h4⟩; have HG4 := Lib.hid h4; clear h4))
        go_roundw
        case rel => exact ⟨k + 1, pb, f, done ++ [a], v4, rfl, rfl, by go_num, by omega, hbz, HK1, by rw [← HSN.out]; exact HG4, by rw [hbd.out]; exact HZ1⟩
        case measure => simp [intOf]; omega
      · obtain rfl : k = 8 := by omega
        have HE : Hid (((splitB 58 s.data.toList).take 8).map numZ = done.map numZ) := Lib.hid (by
          have h := HZ.out
          rw [if_pos rfl] at h
          rw [h, ← HK.out, List.take_left])
        clear hk
        go_wp2
        go_end0
        exact ⟨v, rfl, by rw [HE.out]; exact HG.out⟩

end Go.Proofs.YtmmkcfjncpcabaaDoor
