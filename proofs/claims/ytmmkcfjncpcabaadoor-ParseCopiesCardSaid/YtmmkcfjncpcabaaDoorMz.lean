/- All, Step, New, State, Held. -/
import Derived.Test.YtmmkcfjncpcabaaDoorMy
namespace Go.Proofs.YtmmkcfjncpcabaaDoor
open Go.RowKit

def takesP (s : PM) : List UInt8 → PM × List PE
  | [] => (s, [])
  | x :: xs => ((takesP (takeP s x).1 xs).1, (takeP s x).2 ++ (takesP (takeP s x).1 xs).2)
theorem takesP_snoc (x : UInt8) : ∀ (xs : List UInt8) (s : PM), takesP s (xs ++ [x]) = ((takeP (takesP s xs).1 x).1, (takesP s xs).2 ++ (takeP (takesP s xs).1 x).2)
  | [], s => by simp [takesP]
  | y :: xs, s => by simp only [List.cons_append, takesP, takesP_snoc x xs, List.append_assoc]
theorem takesP_app : ∀ (xs ys : List UInt8) (s : PM), takesP s (xs ++ ys) = ((takesP (takesP s xs).1 ys).1, (takesP s xs).2 ++ (takesP (takesP s xs).1 ys).2)
  | [], ys, s => by simp [takesP]
  | x :: xs, ys, s => by simp only [List.cons_append, takesP, takesP_app xs ys, List.append_assoc]
theorem GQ.takes : ∀ (xs : List UInt8) {s : PM}, GQ s → GQ (takesP s xs).1
  | [], _, h => h
  | x :: xs, _, h => GQ.takes xs (h.take x)
theorem restP_len {s : PM} (h : s.ps.length ≤ 3) (x : Nat) : (restP s x).2.length ≤ 4 := by
  have h1 := scalP_len (read1 s x) (wait1 s x)
  have h2 := rdL_len (s.ps ++ [x])
  rw [List.length_append, List.length_singleton] at h2
  have h3 : (read1 s x).length = (rdL (s.ps ++ [x])).length := by rw [read1, List.length_map]
  unfold restP
  omega
theorem breakP_len {s : PM} (h : s.ps.length ≤ 3) (x : Nat) : (breakP s x).2.length ≤ 4 := restP_len (s := s.at 0) h x
theorem strP_len (s : PM) : (strP s).length ≤ 1 := by
  unfold strP
  repeat' split
  all_goals simp
theorem endSeqP_len (s : PM) (x : Int) : (endSeqP s x).2.length ≤ 1 := by
  unfold endSeqP
  split <;> simp
theorem takeP_len {s : PM} (h : s.ps.length ≤ 3) (x : UInt8) : (takeP s x).2.length ≤ 5 := by
  have e1 := endP_len s
  have e2 := strP_len (endP s).1
  have e3 := strP_len s
  have e4 := restP_len h x.toNat
  have e5 := breakP_len h x.toNat
  have e6 := endEscP_len s x.toNat
  have e7 := endSeqP_len s x.toNat
  unfold takeP escTakeP seqTakeP devTakeP cmdTakeP
  repeat' split
  all_goals (try simp only [List.length_append, List.length_singleton, List.length_nil])
  all_goals omega
/-- The slice value '.slice A bs.length c' reads as the bytes bs, in a block that the parser's calls do not turn. -/
def RB (D : Nat) (a : PV) (w : World) (A : Option Addr) (bs : List UInt8) : Prop :=
  bs ≠ [] → ∃ b off, A = some ⟨b, off, none⟩ ∧ b < w.heap.size ∧ ¬ Mut D a b ∧ ∀ k, k < bs.length → w.cell? ⟨b, off + k, none⟩ = some (.int .u8 (bs[k]?.getD 0).toNat)
theorem RB.fr {D : Nat} {a a' : PV} {w w' : World} {A : Option Addr} {bs : List UInt8} (h : RB D a w A bs) (hf : Fr D a a' w w') : RB D a' w' A bs := fun hne => by
  obtain ⟨b, off, e, hb, hm, hc⟩ := h hne
  refine ⟨b, off, e, Nat.lt_of_lt_of_le hb hf.kb.size, fun h => (hf.mu b h).elim hm (fun h => by omega), fun k hk => ?_⟩
  exact (World.cell?_of_block (a := ⟨b, off + k, none⟩) (hf.kb.block b hb hm)).trans (hc k hk)
theorem take_snocU (xs : List UInt8) (k : Nat) (h : k < xs.length) : xs.take (k + 1) = xs.take k ++ [xs[k]?.getD 0] := by
  rw [List.take_succ_eq_append_getElem h, List.getElem?_eq_getElem h]; rfl
/-- What a call of All leaves: the parser with no events, and its events in a row of their own. -/
def AP (D : Nat) (s' : PM) (es' : List PE) (a : PV) (w : World) (v : Value) (w' : World) : Prop :=
  ∃ cs a' A c, v = .slice A es'.length c ∧ MI w' D s' [] a' ∧ Fr D a a' w w' ∧ w'.ownsRow (D + 1) 41 8 v es'.length cs ∧ EvL w' es' cs ∧ (∀ g, some g = v.ownBlock → ¬ Mut D a' g) ∧ ∀ g, some g = v.ownBlock → Mut D a g ∨ w.heap.size ≤ g
theorem MI.handed {w w' : World} {D : Nat} {s : PM} {es : List PE} {a a0 : PV} {w0 : World} (h : MI w D s es a) (hf : Fr D a0 a w0 w) (hb : PB w' D { a with evs := .slice none 0 0 }) (hg : w.grownBy w' (some D)) : AP D s es a0 w0 a.evs w' := by
  have hkb := kb_of_grown (a := a) hg
  have hnt := h.nt hkb
  obtain ⟨cs, ho, hl⟩ := h.evs
  obtain ⟨A, c, hv, _⟩ := own_form ho
  refine ⟨cs, { a with evs := .slice none 0 0 }, A, c, hv, ⟨hb, h.pre, keep_row hg h.head, keep_row hg h.inter, h.wrong, h.last, keep_row hg h.pay, h.cut, h.state, h.most, h.dec.block h.blk hb rfl rfl rfl rfl rfl, ⟨[], World.ownsRow_nil _ _ _ _, rfl⟩, h.d1, h.d2⟩, hf.trans ⟨hkb, fun i hi => .inl ?_⟩, keep_row hg ho, EvL.kept hnt _ _ hl, fun g hg2 hm => ?_, fun g hg2 => hf.mu g (.inr (.inr (.inr (.inr hg2))))⟩
  · rcases hi with e | e | e | e | e
    · exact .inl e
    · exact .inr (.inl e)
    · exact .inr (.inr (.inl e))
    · exact .inr (.inr (.inr (.inl e)))
    · cases e
  · have hne := h.evne hg2
    rcases hm with e | e | e | e | e
    · have := h.size hg2 (.inr (.inr (.inr rfl)))
      omega
    · exact hne.1 e
    · exact hne.2.1 e
    · exact hne.2.2 e
    · cases e
set_option maxRecDepth 100000 in
set_option maxHeartbeats 4000000 in
theorem all_mi {w : World} {D : Nat} {s : PM} {a : PV} (h : MI w D s [] a) (hG : GT w D) (hP : GQ s) (A : Option Addr) (bs : List UInt8) (c n : Nat) (hl : n = bs.length) (hR : RB D a w A bs) (hn : n ≤ 10000) : Calls Tryd.prog 14 #[.pointer (some ⟨D, 0, none⟩), .slice A n c] w (fun e w' => ∃ v, e = .returned v ∧ AP D (takesP s bs).1 (takesP s bs).2 a w v w') := by
  have HI := Lib.hid h
  have HG := Lib.hid hG
  have HQ := Lib.hid hP
  have HR := Lib.hid hR
  have HL := Lib.hid hl
  clear h hR hl hG hP
  go_enter Tryd.func14, Tryd.ntmps14
  go_wp2
  go_loopw [12] (fun i wr => ∃ k : Nat, k ≤ n ∧ i = .int .i64 k ∧ Hid (TO D (takesP s (bs.take k)).1 (takesP s (bs.take k)).2 a w wr ∧ (takesP s (bs.take k)).2.length ≤ 5 * k)) (fun i _ => n - (intOf i).toNat)
  case atStart => exact ⟨0, Nat.zero_le _, rfl, Lib.hid ⟨by simpa [takesP] using ⟨a, HI.out, Fr.refl D a w⟩, by simp [takesP]⟩⟩
  case round =>
    obtain ⟨k, hk, rfl, HK⟩ := hrel
    by_cases hlt : k < n
    · obtain ⟨⟨ak, hm, hf⟩, hlen⟩ := HK.out
      have hkl : k < bs.length := HL.out ▸ hlt
      obtain ⟨b, off, e, hblt, hnm, hc⟩ := (HR.out.fr hf) (fun e => by rw [e] at hkl; simp at hkl)
      subst e
      have hck := hc k hkl
      have hli : (k : Int) < n := by omega
      have HC : Hid (Calls Tryd.prog 22 #[.pointer (some ⟨D, 0, none⟩), .int .u8 (bs[k]?.getD 0).toNat] wr (fun e w' => e = .returned (.tuple #[]) ∧ TO D (takesP s (bs.take (k + 1))).1 (takesP s (bs.take (k + 1))).2 a w w')) := Lib.hid ((take_mi hm (HG.out.fr HI.out hf) (HQ.out.takes (bs.take k)) (bs[k]?.getD 0) (by omega)).mono fun _ _ hp => ⟨hp.1, by rw [take_snocU bs k hkl, takesP_snoc]; exact TO.trans hf hp.2⟩)
      have HB : Hid ((takesP s (bs.take (k + 1))).2.length ≤ 5 * (k + 1)) := Lib.hid (by
        rw [take_snocU bs k hkl, takesP_snoc]
        have := takeP_len hm.dec.len (bs[k]?.getD 0)
        simp only [List.length_append]
        omega)
      clear hc hm hf hnm hkl HK HR HL HI HG HQ hlen
      generalize (bs[k]?.getD 0).toNat = r at *
      go_wp2_with (go_at_call 22; (with_reducible refine HC.out.mono ?_); rintro e w2 ⟨rfl, hp⟩; have HP := Lib.hid hp; clear hp)
      go_roundw
      case rel => exact ⟨k + 1, hlt, by go_num, Lib.hid ⟨HP.out, HB.out⟩⟩
      case measure => simp [intOf]; omega
    · have : k = n := by omega
      subst this
      obtain ⟨⟨ak, hm, hf⟩, hlen⟩ := HK.out
      rw [HL.out, List.take_length] at hm
      have hb := hm.blk
      have c14 : wr.cell? ⟨D, 14, none⟩ = some ak.evs := hb.cell 14
      have f14 := hb.free 14
      have HZ : Hid (∀ m, AP D (takesP s bs).1 (takesP s bs).2 a w ak.evs ((wr.drewN m).setCell ⟨D, 14, none⟩ (.slice none 0 0))) := Lib.hid fun m => hm.handed hf (PB.set (W := wr.drewN m) hb 14 _ rfl) (keptD (w := wr) (W := wr.drewN m) ⟨rfl, rfl, rfl, Nat.le_refl _, fun _ _ _ => rfl⟩ 14 _)
      obtain ⟨A2, c2, hv2, _⟩ : ∃ A c, ak.evs = .slice A (takesP s bs).2.length c ∧ True := hm.evs.elim fun cs h => (own_form h.1).elim fun A h => h.elim fun c h => ⟨A, c, h.1, trivial⟩
      rw [hv2] at c14 HZ
      clear HK HI HR HL HG HQ hm hf hb hlen hv2
      go_wp2
      go_ret
      exact ⟨_, rfl, HZ.out 0⟩

end Go.Proofs.YtmmkcfjncpcabaaDoor
