/- endSequence's telling way; takeDevice's last byte. -/
import Derived.Test.YtmmkcfjncpcabaaDoorMs
namespace Go.Proofs.YtmmkcfjncpcabaaDoor
open Go.RowKit

/-- MaxLen's cell. -/
def ML (w : World) : Prop := ∃ ml, w.cell? ⟨2, 0, none⟩ = some (.int .i64 ml)
theorem numbered_mi {w : World} {D : Nat} {s : PM} {es : List PE} {a : PV} (h : MI w D s es a) (hG : GP s) (hm : ML w) (kind last : Int) : Calls Tryd.prog 44 #[.pointer (some ⟨D, 0, none⟩), .int .i64 kind, .int .u8 last] w (NumPost kind last s.pre s.head s.inter w) :=
  hm.elim fun ml hm => numbered_any D a kind last s.pre s.head s.inter ml w h.blk h.pre h.head h.inter hG.head (Nat.le_trans hG.hlen (by omega)) hm
def csiP (s : PM) (x : Int) : PE := ⟨3, 0, x, s.pre, HZ s.head, bsB s.inter, ⟨#[]⟩, false⟩
def endSeqP (s : PM) (x : Int) : PM × List PE := if s.wrong = true then (s.at 0, []) else (s.at 0, [csiP s x])
set_option maxRecDepth 100000 in
set_option maxHeartbeats 2000000 in
theorem endSeq_mi {w : World} {D : Nat} {s : PM} {es : List PE} {a : PV} (h : MI w D s es a) (hG : GP s) (hm : ML w) (hn : es.length ≤ 100000) (x : Int) : Calls Tryd.prog 61 #[.pointer (some ⟨D, 0, none⟩), .int .u8 x] w (OK D (endSeqP s x).1 (es ++ (endSeqP s x).2) a w) := by
  unfold endSeqP
  have hwr := h.wrong
  by_cases hs : s.wrong = true
  · rw [if_pos hs, List.append_nil]
    exact (endseq_wrong D a x s.state w h.blk h.state (hwr.trans (by rw [hs]))).mono fun _ _ ⟨h1, h2⟩ => ⟨h1, h.at 0 h2.1 h2.2⟩
  · rw [if_neg hs]
    have hw : a.wrong = .bool false := hwr.trans (by simpa using hs)
    have HN := Lib.hid (numbered_mi h hG hm 3 x)
    have HT : Hid (∀ w2 A c, RGt w2 A (HZ s.head) → Below w.heap.size w w2 → Calls Tryd.prog 43 #[.pointer (some ⟨D, 0, none⟩), .agg #[.int .i64 3, .int .i32 0, .int .u8 x, .int .u8 s.pre, .slice A (HZ s.head).length c, .string (bsB s.inter), .string ⟨#[]⟩, .bool false]] w2 (fun e w' => e = .returned (.tuple #[]) ∧ TO D s (es ++ [csiP s x]) a w w')) := Lib.hid fun w2 A c hr hb => by
      obtain ⟨h2, hf⟩ := h.past hb
      exact (tell_mi h2 hn ⟨3, 0, x, s.pre, .slice A (HZ s.head).length c, bsB s.inter, ⟨#[]⟩, false⟩ (csiP s x) ⟨rfl, rfl, rfl, rfl, rfl, rfl, rfl, A, c, rfl, hr⟩).mono fun _ _ ⟨h3, h4⟩ => ⟨h3, TO.trans hf h4⟩
    have HE : Hid (∀ w3, TO D s (es ++ [csiP s x]) a w w3 → Calls Tryd.prog 33 #[.pointer (some ⟨D, 0, none⟩), .int .i64 0] w3 (fun e w' => e = .returned (.tuple #[]) ∧ TO D (s.at 0) (es ++ [csiP s x]) a w w')) := Lib.hid fun w3 ⟨a3, h3, hf⟩ => (enter_mi h3 0).mono fun _ _ ⟨h4, h5⟩ => ⟨h4, TO.trans hf h5⟩
    have c3 : w.cell? ⟨D, 3, none⟩ = some a.wrong := h.blk.cell 3
    rw [hw] at c3
    unfold OK
    unfold NumPost at HN
    generalize csiP s x = E at *
    generalize HZ s.head = G at *
    generalize bsB s.inter = S at *
    generalize s.pre = pre at *
    have HI := Lib.hid h
    clear h hG hm hn hwr hs hw
    go_enter Tryd.func61, Tryd.ntmps61
    go_wp2_with (first
      | (go_at_call 44; (with_reducible refine HN.out.mono ?_); rintro e w2 ⟨A2, c2, rfl, hr2, hb2⟩; have HR2 := Lib.hid hr2; have HB2 := Lib.hid hb2; clear hr2 hb2)
      | (go_at_call 43; (with_reducible refine (HT.out _ _ _ HR2.out HB2.out).mono ?_); rintro e w3 ⟨rfl, hp⟩; have HP3 := Lib.hid hp; clear hp)
      | (go_at_call 33; (with_reducible refine (HE.out _ HP3.out).mono ?_); rintro e w4 ⟨rfl, hp⟩; have HP4 := Lib.hid hp; clear hp))
    go_end0
    exact ⟨rfl, HP4.out⟩
set_option maxRecDepth 100000 in
set_option maxHeartbeats 2000000 in
theorem dev_last (D : Nat) (a : PV) (x : Int) (hlo : 64 ≤ x) (hhi : x < 127) (w : World) (h : PB w D a) (hl : a.last = .int .u8 0) :
    Calls Tryd.prog 47 #[.pointer (some ⟨D, 0, none⟩), .int .u8 x] w (MPost D { a with last := .int .u8 x } w) := by
  have HF : Hid (MPost D { a with last := .int .u8 x } w (.returned (.tuple #[])) (w.setCell ⟨D, 4, none⟩ (.int .u8 x))) := Lib.hid ⟨rfl, h.set 4 _ rfl, keptD (kept0 w D) 4 _⟩
  have c4 : w.cell? ⟨D, 4, none⟩ = some a.last := h.cell 4
  rw [hl] at c4
  have f4 := h.free 4
  have e1 : decide (x < 32) = false := decide_eq_false (by omega)
  have e2 : decide (x < 64) = false := decide_eq_false (by omega)
  have e3 : decide (x < 127) = true := decide_eq_true (by omega)
  have e4 : (x == 127) = false := by simp; omega
  clear h hl hlo hhi
  go_enter Tryd.func47, Tryd.ntmps47
  go_wp2
  go_end0
  exact HF.out

end Go.Proofs.YtmmkcfjncpcabaaDoor
