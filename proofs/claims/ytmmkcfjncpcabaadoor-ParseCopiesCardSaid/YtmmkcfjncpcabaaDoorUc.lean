/- The walk of utf.first: what is read first of bytes. -/
import Derived.Test.YtmmkcfjncpcabaaDoorUb
namespace Go.Proofs.YtmmkcfjncpcabaaDoor
open Go.RowKit

/-- The bytes as the library's contract takes them. -/
def bytesOf (zs : List Nat) : ByteArray := ⟨(zs.map UInt8.ofNat).toArray⟩
theorem bytesOf_size (zs : List Nat) : (bytesOf zs).size = zs.length := by simp [bytesOf, ByteArray.size]
theorem bytesOf_get (zs : List Nat) (hz : ∀ z ∈ zs, z < 256) (j : Nat) : ((bytesOf zs).get! j).toNat = zs[j]?.getD 0 := by
  unfold bytesOf ByteArray.get!
  rcases Nat.lt_or_ge j zs.length with h | h
  · have hj := hz zs[j] (List.getElem_mem h)
    simp [h]
    omega
  · simp [List.getElem?_eq_none h]
    rfl
def decN (zs : List Nat) : Nat × Nat := Lib.decodeN zs.length (zs[0]?.getD 0) (zs[1]?.getD 0) (zs[2]?.getD 0) (zs[3]?.getD 0)
theorem decodeGo_eq (zs : List Nat) (hz : ∀ z ∈ zs, z < 256) (h0 : zs ≠ []) : Lib.decodeGo (bytesOf zs) = decN zs := by
  unfold Lib.decodeGo decN
  rw [bytesOf_size, if_neg (by have := List.length_pos_iff.2 h0; omega), Lib.decode_at, bytesOf_size]
  simp only [bytesOf_get zs hz, Nat.sub_zero, Nat.zero_add]
theorem decode_any (b off c : Nat) (zs : List Nat) (n : Nat) (hn : n = zs.length) (h0 : zs ≠ []) (w : World) (hT : UT w) (hR : BS w w.heap.size (some ⟨b, off, none⟩) zs) :
    Calls Tryd.prog 93 #[.slice (some ⟨b, off, none⟩) n c] w fun e w' => e = .returned (.tuple #[.int .i32 (decN zs).1, .int .i64 (decN zs).2]) ∧ Below w.heap.size w w' := by
  obtain ⟨b', off', e, hb, hc⟩ := hR.2 h0
  obtain ⟨rfl, rfl⟩ : b = b' ∧ off = off' := by simpa using e
  have h := Tryd.decodeRune_any (bytesOf zs) b off c w hT.1 (fun j hj => by
    rw [bytesOf_size] at hj
    rw [bytesOf_get zs hR.1]
    exact hc j hj)
  rw [bytesOf_size, decodeGo_eq zs hR.1 h0, ← hn] at h
  exact h
/-- What is read first, and how many bytes that is. -/
def firstF (zs : List Nat) : Nat × Nat := if (decN zs).1 = 65533 ∧ (decN zs).2 = 1 then (65533, begF zs) else decN zs

set_option maxHeartbeats 1000000 in
theorem first_any (b off c : Nat) (zs : List Nat) (n : Nat) (hn : n = zs.length) (h0 : zs ≠ []) (hcap : n ≤ c) (h63 : c ≤ 9223372036854775807) (w : World) (hT : UT w) (hR : BS w w.heap.size (some ⟨b, off, none⟩) zs) :
    Calls Tryd.prog 88 #[.slice (some ⟨b, off, none⟩) n c] w fun e w' => e = .returned (.tuple #[.int .i32 (firstF zs).1, .int .i64 (firstF zs).2]) ∧ Below w.heap.size w w' := by
  have hd := decode_any b off c zs n hn h0 w hT hR
  have HB : Hid (∀ W, Below w.heap.size w W → Calls Tryd.prog 94 #[.slice (some ⟨b, off, none⟩) n c] W fun e w' => e = .returned (.int .i64 (begF zs)) ∧ Below W.heap.size W w') := Lib.hid fun W hW =>
    beginning_any _ zs n c hn hcap h63 W (hT.below hW) ((hR.below hW).more hW.size)
  clear hn h0 hT hR
  by_cases hp : (decN zs).1 = 65533 ∧ (decN zs).2 = 1
  · have HZ : Hid (firstF zs = (65533, begF zs)) := Lib.hid (by unfold firstF; rw [if_pos hp])
    rw [hp.1, hp.2] at hd
    clear hp
    generalize begF zs = bf at *
    go_enter Tryd.func88, Tryd.ntmps88
    go_wp2_with (first | (go_at_call 93; refine hd.mono ?_; clear hd; rintro e w1 ⟨rfl, hb1⟩) | (go_at_call 94; refine (HB.out _ hb1).mono ?_; rintro e w2 ⟨rfl, hb2⟩))
    go_ret2
    exact ⟨by rw [HZ.out]; rfl, hb1.trans (hb2.mono hb1.size)⟩
  · have HZ : Hid (firstF zs = decN zs) := Lib.hid (by unfold firstF; rw [if_neg hp])
    obtain ⟨r, hr⟩ : ∃ r, r = (decN zs).1 := ⟨_, rfl⟩
    obtain ⟨k, hk⟩ : ∃ k, k = (decN zs).2 := ⟨_, rfl⟩
    have HE : Hid (decN zs = (r, k)) := Lib.hid (by rw [hr, hk])
    rw [← hr, ← hk] at hd hp
    clear hr hk
    by_cases h1 : r = 65533
    · have h2 : ¬ k = 1 := fun e => hp ⟨h1, e⟩
      have e1 : ((r : Int) == 65533) = true := by simp; omega
      have e2 : ((k : Int) == 1) = false := by simp; omega
      clear hp h1 h2
      go_enter Tryd.func88, Tryd.ntmps88
      go_wp2_with (go_at_call 93; refine hd.mono ?_; clear hd; rintro e w1 ⟨rfl, hb1⟩)
      go_ret2
      exact ⟨by rw [HZ.out, HE.out]; rfl, hb1⟩
    · have e1 : ((r : Int) == 65533) = false := by simp; omega
      clear hp h1
      go_enter Tryd.func88, Tryd.ntmps88
      go_wp2_with (go_at_call 93; refine hd.mono ?_; clear hd; rintro e w1 ⟨rfl, hb1⟩)
      go_ret2
      exact ⟨by rw [HZ.out, HE.out]; rfl, hb1⟩

end Go.Proofs.YtmmkcfjncpcabaaDoor
