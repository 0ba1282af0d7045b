/- take: any byte; what always holds of a parser. -/
import Derived.Test.YtmmkcfjncpcabaaDoorMx
namespace Go.Proofs.YtmmkcfjncpcabaaDoor
open Go.RowKit

structure GQ (s : PM) : Prop where
  gp : GP s
  st : s.state = 0 ∨ s.state = 1 ∨ s.state = 2 ∨ s.state = 3 ∨ s.state = 4 ∨ s.state = 5
theorem beginsZ_st (x : Int) : beginsZ x = 0 ∨ beginsZ x = 1 ∨ beginsZ x = 2 ∨ beginsZ x = 3 ∨ beginsZ x = 4 ∨ beginsZ x = 5 := by
  unfold beginsZ
  repeat' split
  all_goals simp
theorem GP.fresh {s : PM} (h : GP s) (b : Bool) : GP (s.fresh b) := ⟨rfl, Nat.zero_le _, h.most⟩
theorem GQ.fresh {s : PM} (h : GQ s) (b : Bool) : GQ (s.fresh b) := ⟨h.gp.fresh b, h.st⟩
theorem GQ.at {s : PM} (h : GQ s) {st : Int} (hst : st = 0 ∨ st = 1 ∨ st = 2 ∨ st = 3 ∨ st = 4 ∨ st = 5) : GQ (s.at st) := ⟨⟨rfl, Nat.zero_le _, h.gp.most⟩, hst⟩
theorem GQ.between {s : PM} (h : GQ s) (x : UInt8) : GQ (betweenP s x) := by
  unfold betweenP
  split
  · exact h
  · split
    · exact ⟨⟨h.gp.head, h.gp.hlen, h.gp.most⟩, h.st⟩
    · exact h.fresh true
theorem GQ.pay {s : PM} (h : GQ s) (x : UInt8) : GQ (payP s x) := by
  unfold payP
  split
  · exact h
  · split
    · exact ⟨⟨h.gp.head, h.gp.hlen, h.gp.most⟩, h.st⟩
    · exact ⟨⟨h.gp.head, h.gp.hlen, h.gp.most⟩, h.st⟩
theorem GQ.par {s : PM} (h : GQ s) (x : UInt8) : GQ (parP s x) := by
  unfold parP
  split
  · exact h.between x
  · rename_i h48
    split
    · exact h
    · split
      · exact h.fresh true
      · split
        · rename_i h60
          split
          · rename_i hl
            refine ⟨⟨?_, ?_, h.gp.most⟩, h.st⟩
            · have := h.gp.head
              unfold headL at this ⊢
              rw [List.all_append, this]
              simp [headB]
              omega
            · show (s.head ++ [x]).length ≤ 256
              rw [List.length_append, List.length_singleton]
              omega
          · exact h.fresh true
        · split
          · exact ⟨⟨h.gp.head, h.gp.hlen, h.gp.most⟩, h.st⟩
          · exact h.fresh true
theorem GQ.endEsc {s : PM} (h : GQ s) (x : Int) : GQ (endEscP s x).1 := by
  unfold endEscP
  split
  · exact h.at (.inl rfl)
  · split
    · exact h.at (beginsZ_st x)
    · exact h.at (.inl rfl)
theorem GQ.endSeq {s : PM} (h : GQ s) (x : Int) : GQ (endSeqP s x).1 := by
  unfold endSeqP
  split
  · exact h.at (.inl rfl)
  · exact h.at (.inl rfl)
theorem GQ.scal1 {s : PM} (h : GQ s) (r : Nat) : GQ (scal1 s r).1 := by
  unfold Go.Proofs.YtmmkcfjncpcabaaDoor.scal1
  split
  · exact h
  · split
    · exact h
    · split
      · exact h.endEsc _
      · exact h
theorem GQ.scal : ∀ (rs : List Nat) {s : PM}, GQ s → GQ (scalP s rs).1
  | [], _, h => h
  | r :: rs, _, h => GQ.scal rs (h.scal1 r)
theorem GQ.wait {s : PM} (h : GQ s) (ps : List Nat) : GQ { s with ps := ps } := ⟨⟨h.gp.head, h.gp.hlen, h.gp.most⟩, h.st⟩
theorem GQ.rest {s : PM} (h : GQ s) (x : Nat) : GQ (restP s x).1 := GQ.scal _ (h.wait _)
theorem GQ.brk {s : PM} (h : GQ s) (x : Nat) : GQ (breakP s x).1 := (h.at (.inl rfl)).rest x
theorem GQ.escT {s : PM} (h : GQ s) (x : UInt8) : GQ (escTakeP s x).1 := by
  unfold escTakeP
  repeat' split
  · exact h
  · exact h.between x
  · exact h.endEsc _
  · exact h
  · exact h.brk _
theorem GQ.seqT {s : PM} (h : GQ s) (x : UInt8) : GQ (seqTakeP s x).1 := by
  unfold seqTakeP
  repeat' split
  · exact h
  · exact h.par x
  · exact h.endSeq _
  · exact h
  · exact h.brk _
theorem GQ.devT {s : PM} (h : GQ s) (x : UInt8) : GQ (devTakeP s x).1 := by
  unfold devTakeP
  repeat' split
  · exact h.pay x
  · exact h
  · exact h.par x
  · exact ⟨⟨h.gp.head, h.gp.hlen, h.gp.most⟩, h.st⟩
  · exact h.brk _
theorem GQ.cmdT {s : PM} (h : GQ s) (x : UInt8) : GQ (cmdTakeP s x).1 := by
  unfold cmdTakeP
  repeat' split
  · exact h.at (.inl rfl)
  · exact h
  · exact h.pay x
/-- What ends a reading: the bytes that wait. -/
def endP (s : PM) : PM × List PE := scalP { s with ps := [] } (readE s)
def takeP (s : PM) (x : UInt8) : PM × List PE :=
  if x.toNat = 24 ∨ x.toNat = 26 then ((endP s).1.at 0, (endP s).2 ++ [execP x.toNat])
  else if x.toNat = 27 then ((endP s).1.at 1, (endP s).2 ++ strP (endP s).1)
  else if s.state = 1 then escTakeP s x else if s.state = 2 then seqTakeP s x else if s.state = 3 then devTakeP s x else if s.state = 4 then cmdTakeP s x else if s.state = 5 then (s, []) else restP s x.toNat
theorem GQ.take {s : PM} (h : GQ s) (x : UInt8) : GQ (takeP s x).1 := by
  have he : GQ (endP s).1 := GQ.scal _ (h.wait [])
  unfold takeP
  repeat' split
  · exact he.at (.inl rfl)
  · exact he.at (.inr (.inl rfl))
  · exact h.escT x
  · exact h.seqT x
  · exact h.devT x
  · exact h.cmdT x
  · exact h
  · exact h.rest _
theorem readE_len (s : PM) : (readE s).length ≤ 1 := by
  unfold readE
  split <;> simp
theorem endP_len (s : PM) : (endP s).2.length ≤ 1 := Nat.le_trans (scalP_len _ _) (readE_len s)
theorem take_mi {w : World} {D : Nat} {s : PM} {es : List PE} {a : PV} (h : MI w D s es a) (hG : GT w D) (hP : GQ s) (x : UInt8) (hn : es.length + 5 ≤ 100000) : Calls Tryd.prog 22 #[.pointer (some ⟨D, 0, none⟩), .int .u8 x.toNat] w (OK D (takeP s x).1 (es ++ (takeP s x).2) a w) := by
  have hx := x.toNat_lt
  have hl := endP_len s
  have hr := readE_len s
  have hE := end_mi h
  have hs : ∀ v w', SR D { s with ps := [] } es a w (readE s) v w' → Calls Tryd.prog 31 #[.pointer (some ⟨D, 0, none⟩), v] w' (fun e w'' => e = .returned (.tuple #[]) ∧ TO D (endP s).1 (es ++ (endP s).2) a w w'') := fun v w' hv => scalars_sr hv (by omega)
  have hlen : (es ++ (endP s).2).length ≤ 100000 := by rw [List.length_append]; omega
  unfold takeP
  by_cases h1 : x.toNat = 24 ∨ x.toNat = 26
  · rw [if_pos h1]
    have hex : ∀ (c : Int) w', TO D ((endP s).1.at 0) (es ++ (endP s).2) a w w' → Calls Tryd.prog 34 #[.pointer (some ⟨D, 0, none⟩), .int .u8 c] w' (fun e w'' => e = .returned (.tuple #[]) ∧ TO D ((endP s).1.at 0) (es ++ ((endP s).2 ++ [execP c])) a w w'') := fun c w' ⟨a', hm, hf⟩ => (execute_mi hm hlen c).mono fun _ _ hp => ⟨hp.1, by rw [← List.append_assoc]; exact TO.trans hf hp.2⟩
    have hen : ∀ w', TO D (endP s).1 (es ++ (endP s).2) a w w' → Calls Tryd.prog 33 #[.pointer (some ⟨D, 0, none⟩), .int .i64 0] w' (fun e w'' => e = .returned (.tuple #[]) ∧ TO D ((endP s).1.at 0) (es ++ (endP s).2) a w w'') := fun w' ⟨a', hm, hf⟩ => (enter_mi hm 0).mono fun _ _ hp => ⟨hp.1, TO.trans hf hp.2⟩
    rcases h1 with h1 | h1
    · rw [h1]
      exact take_cancel D w _ _ _ (TO D ((endP s).1.at 0) (es ++ ((endP s).2 ++ [execP (24 : Nat)])) a w) hE hs hen (hex 24)
    · rw [h1]
      exact take_substitute D w _ _ _ (TO D ((endP s).1.at 0) (es ++ ((endP s).2 ++ [execP (26 : Nat)])) a w) hE hs hen (hex 26)
  · rw [if_neg h1]
    by_cases h2 : x.toNat = 27
    · rw [if_pos h2, h2]
      have hE1 : GQ (endP s).1 := GQ.scal _ (hP.wait [])
      refine take_escape D w _ _ (TO D (endP s).1 ((es ++ (endP s).2) ++ strP (endP s).1) a w) (TO D ((endP s).1.at 1) (es ++ ((endP s).2 ++ strP (endP s).1)) a w) hE hs (fun w' ⟨a', hm, hf⟩ => (string_mi hm (hG.fr h hf) hE1.gp hlen).mono fun _ _ hp => ⟨hp.1, TO.trans hf hp.2⟩) (fun w' ⟨a', hm, hf⟩ => (enter_mi hm 1).mono fun _ _ hp => ⟨hp.1, by rw [← List.append_assoc]; exact TO.trans hf hp.2⟩)
    · rw [if_neg h2]
      have hne : ¬ (x.toNat : Int) = 24 ∧ ¬ (x.toNat : Int) = 26 ∧ ¬ (x.toNat : Int) = 27 := by omega
      have hst := hP.st
      by_cases s1 : s.state = 1
      · rw [if_pos s1]
        exact take_1 D a x.toNat hne w h.blk (h.state.trans (by rw [s1])) _ (escTake_mi h hG x (by omega))
      · rw [if_neg s1]
        by_cases s2 : s.state = 2
        · rw [if_pos s2]
          exact take_2 D a x.toNat hne w h.blk (h.state.trans (by rw [s2])) _ (seqTake_mi h hG hP.gp x (by omega))
        · rw [if_neg s2]
          by_cases s3 : s.state = 3
          · rw [if_pos s3]
            exact take_3 D a x.toNat hne w h.blk (h.state.trans (by rw [s3])) _ (devTake_mi h hG hP.gp x (by omega))
          · rw [if_neg s3]
            by_cases s4 : s.state = 4
            · rw [if_pos s4]
              exact take_4 D a x.toNat hne w h.blk (h.state.trans (by rw [s4])) _ (cmdTake_mi h hG hP.gp x (by omega))
            · rw [if_neg s4]
              by_cases s5 : s.state = 5
              · rw [if_pos s5]
                exact take_5 D a x.toNat hne w h.blk (h.state.trans (by rw [s5])) _ ((unmeant D x.toNat w).mono fun _ _ hq => OK.stay h hq)
              · rw [if_neg s5]
                exact take_0 D a x.toNat hne w h.blk (h.state.trans (by rw [show s.state = 0 by omega])) _ (rest_mi h hG x.toNat hx (by omega))

end Go.Proofs.YtmmkcfjncpcabaaDoor
