/- take: one byte, at each state. -/
import Derived.Test.YtmmkcfjncpcabaaDoorMw
namespace Go.Proofs.YtmmkcfjncpcabaaDoor
open Go.RowKit

def oscP (s : PM) : PE := ⟨4, 0, 0, 0, [], ⟨#[]⟩, bsB s.pay, s.cut⟩
def strP (s : PM) : List PE := if s.wrong = true then [] else if s.state = 4 then [oscP s] else if s.state = 3 ∧ ¬ s.last = 0 then [dcsP s] else []
theorem string_mi {w : World} {D : Nat} {s : PM} {es : List PE} {a : PV} (h : MI w D s es a) (hT : GT w D) (hP : GP s) (hn : es.length ≤ 100000) : Calls Tryd.prog 35 #[.pointer (some ⟨D, 0, none⟩)] w (OK D s (es ++ strP s) a w) := by
  have quiet : ∀ {e : Ending} {w' : World}, e = .returned (.tuple #[]) ∧ Below w.heap.size w w' → OK D s es a w e w' := fun hq => ⟨hq.1, a, (h.past hq.2).1, (h.past hq.2).2⟩
  unfold strP
  have hwr := h.wrong
  by_cases hs : s.wrong = true
  · rw [if_pos hs, List.append_nil]
    exact (string_wrong D a w h.blk (hwr.trans (by rw [hs]))).mono fun _ _ hq => quiet hq
  · rw [if_neg hs]
    have hs' : s.wrong = false := by simpa using hs
    have hw : a.wrong = .bool false := hwr.trans (by rw [hs'])
    by_cases h4 : s.state = 4
    · rw [if_pos h4]
      obtain ⟨cs, ho, hl⟩ := h.evs
      exact (string_osc D a es.length cs s.pay s.cut w h.blk hw (h.state.trans (by rw [h4])) h.cut ho hn h.pay).mono fun _ _ ⟨v', h1, h2, h3, h4⟩ => ⟨h1, h.told (e := oscE s.pay s.cut) hl rfl h2 h3 h4 ⟨rfl, rfl, rfl, rfl, rfl, rfl, rfl, none, 0, rfl, rg_nil w⟩⟩
    · rw [if_neg h4]
      by_cases h3 : s.state = 3
      · by_cases hl : s.last = 0
        · rw [if_neg (fun h => h.2 hl), List.append_nil]
          exact (string_none D a w h.blk hw (h.state.trans (by rw [h3])) (h.last.trans (by rw [hl]))).mono fun _ _ hq => quiet hq
        · rw [if_pos ⟨h3, hl⟩]
          exact string_dcs h hP hT.ml hT.d3 hn hs' h3 hl
      · rw [if_neg (fun h => h3 h.1), List.append_nil]
        exact (string_state D a s.state w h.blk hw h.state h3 h4).mono fun _ _ hq => quiet hq

def breakP (s : PM) (x : Nat) : PM × List PE := restP (s.at 0) x
theorem break_mi {w : World} {D : Nat} {s : PM} {es : List PE} {a : PV} (h : MI w D s es a) (hG : GT w D) (x : Nat) (hx : x < 256) (hn : es.length + 4 ≤ 100000) : Calls Tryd.prog 59 #[.pointer (some ⟨D, 0, none⟩), .int .u8 x] w (OK D (breakP s x).1 (es ++ (breakP s x).2) a w) := by
  refine break_any D a x s.state w h.blk h.state _ (fun w' hw' => ?_) (fun _ _ hq => hq.1)
  obtain ⟨a', hm, hf⟩ := h.at 0 hw'.1 hw'.2
  exact (rest_mi hm (hG.fr h hf) x hx hn).mono fun _ _ hp => ⟨hp.1, TO.trans hf hp.2⟩
def escTakeP (s : PM) (x : UInt8) : PM × List PE :=
  if x.toNat < 32 then (s, [execP x.toNat]) else if x.toNat < 48 then (betweenP s x, []) else if x.toNat < 127 then endEscP s x.toNat else if x.toNat = 127 then (s, []) else breakP s x.toNat
def seqTakeP (s : PM) (x : UInt8) : PM × List PE :=
  if x.toNat < 32 then (s, [execP x.toNat]) else if x.toNat < 64 then (parP s x, []) else if x.toNat < 127 then endSeqP s x.toNat else if x.toNat = 127 then (s, []) else breakP s x.toNat
def devTakeP (s : PM) (x : UInt8) : PM × List PE :=
  if ¬ s.last = 0 then (payP s x, []) else if x.toNat < 32 ∨ x.toNat = 127 then (s, []) else if x.toNat < 64 then (parP s x, []) else if x.toNat < 127 then ({ s with last := x.toNat }, []) else breakP s x.toNat
def cmdTakeP (s : PM) (x : UInt8) : PM × List PE :=
  if x.toNat = 7 then (s.at 0, strP s) else if x.toNat < 32 ∨ x.toNat = 127 then (s, []) else (payP s x, [])
theorem OK.nil {w : World} {D : Nat} {s' : PM} {es : List PE} {a : PV} {e : Ending} {w' : World} (h : OK D s' es a w e w') : OK D s' (es ++ []) a w e w' := by rw [List.append_nil]; exact h
theorem OK.stay {w w' : World} {D : Nat} {s : PM} {es : List PE} {a : PV} {e : Ending} (h : MI w D s es a) (hq : e = .returned (.tuple #[]) ∧ w = w') : OK D s (es ++ []) a w e w' := by
  obtain ⟨rfl, rfl⟩ := hq
  exact (OK.same h).nil
theorem escTake_mi {w : World} {D : Nat} {s : PM} {es : List PE} {a : PV} (h : MI w D s es a) (hG : GT w D) (x : UInt8) (hn : es.length + 4 ≤ 100000) : Calls Tryd.prog 45 #[.pointer (some ⟨D, 0, none⟩), .int .u8 x.toNat] w (OK D (escTakeP s x).1 (es ++ (escTakeP s x).2) a w) := by
  have hx := x.toNat_lt
  unfold escTakeP
  by_cases h1 : x.toNat < 32
  · rw [if_pos h1]
    exact esc_exec D x.toNat (by omega) w _ (execute_mi h (by omega) x.toNat) fun _ _ hq => hq.1
  · rw [if_neg h1]
    by_cases h2 : x.toNat < 48
    · rw [if_pos h2]
      exact esc_between D x.toNat (by omega) (by omega) w _ ((between_mi h x).mono fun _ _ hq => hq.nil) fun _ _ hq => hq.1
    · rw [if_neg h2]
      by_cases h3 : x.toNat < 127
      · rw [if_pos h3]
        exact esc_end D x.toNat (by omega) (by omega) w _ (endEsc_mi h (by omega) x.toNat) fun _ _ hq => hq.1
      · rw [if_neg h3]
        by_cases h4 : x.toNat = 127
        · rw [if_pos h4]
          exact (esc_none D x.toNat (by omega) (by omega) w).mono fun _ _ hq => OK.stay h hq
        · rw [if_neg h4]
          exact esc_break D x.toNat (by omega) w _ (break_mi h hG x.toNat hx hn) fun _ _ hq => hq.1
theorem seqTake_mi {w : World} {D : Nat} {s : PM} {es : List PE} {a : PV} (h : MI w D s es a) (hG : GT w D) (hP : GP s) (x : UInt8) (hn : es.length + 4 ≤ 100000) : Calls Tryd.prog 46 #[.pointer (some ⟨D, 0, none⟩), .int .u8 x.toNat] w (OK D (seqTakeP s x).1 (es ++ (seqTakeP s x).2) a w) := by
  have hx := x.toNat_lt
  unfold seqTakeP
  by_cases h1 : x.toNat < 32
  · rw [if_pos h1]
    exact seq_exec D x.toNat (by omega) w _ (execute_mi h (by omega) x.toNat) fun _ _ hq => hq.1
  · rw [if_neg h1]
    by_cases h2 : x.toNat < 64
    · rw [if_pos h2]
      exact seq_param D x.toNat (by omega) (by omega) w _ ((par_mi h x).mono fun _ _ hq => hq.nil) fun _ _ hq => hq.1
    · rw [if_neg h2]
      by_cases h3 : x.toNat < 127
      · rw [if_pos h3]
        exact seq_end D x.toNat (by omega) (by omega) w _ (endSeq_mi h hP hG.ml (by omega) x.toNat) fun _ _ hq => hq.1
      · rw [if_neg h3]
        by_cases h4 : x.toNat = 127
        · rw [if_pos h4]
          exact (seq_none D x.toNat (by omega) (by omega) w).mono fun _ _ hq => OK.stay h hq
        · rw [if_neg h4]
          exact seq_break D x.toNat (by omega) w _ (break_mi h hG x.toNat hx hn) fun _ _ hq => hq.1
theorem devTake_mi {w : World} {D : Nat} {s : PM} {es : List PE} {a : PV} (h : MI w D s es a) (hG : GT w D) (hP : GP s) (x : UInt8) (hn : es.length + 4 ≤ 100000) : Calls Tryd.prog 47 #[.pointer (some ⟨D, 0, none⟩), .int .u8 x.toNat] w (OK D (devTakeP s x).1 (es ++ (devTakeP s x).2) a w) := by
  have hx := x.toNat_lt
  unfold devTakeP
  by_cases h0 : s.last = 0
  · rw [if_neg (fun h => h h0)]
    have hl : a.last = .int .u8 0 := h.last.trans (by rw [h0])
    by_cases h1 : x.toNat < 32 ∨ x.toNat = 127
    · rw [if_pos h1]
      rcases h1 with h1 | h1
      · exact (dev_low D x.toNat (by omega) w a h.blk hl).mono fun _ _ hq => OK.stay h hq
      · exact (dev_del D x.toNat (by omega) (by omega) w a h.blk hl).mono fun _ _ hq => OK.stay h hq
    · rw [if_neg h1]
      by_cases h2 : x.toNat < 64
      · rw [if_pos h2]
        exact dev_param D x.toNat (by omega) (by omega) w a h.blk hl _ ((par_mi h x).mono fun _ _ hq => hq.nil) fun _ _ hq => hq.1
      · rw [if_neg h2]
        by_cases h3 : x.toNat < 127
        · rw [if_pos h3]
          exact (dev_last D a x.toNat (by omega) (by omega) w h.blk hl).mono fun _ _ hm => OK.nil ⟨hm.1, h.setLast _ hm.2.1 hm.2.2⟩
        · rw [if_neg h3]
          exact dev_break D x.toNat (by omega) w a h.blk hl _ (break_mi h hG x.toNat hx hn) fun _ _ hq => hq.1
  · rw [if_pos h0]
    exact dev_pay D x.toNat w a s.last h.blk h.last h0 _ ((pay_mi h hP x).mono fun _ _ hq => hq.nil) fun _ _ hq => hq.1
theorem cmdTake_mi {w : World} {D : Nat} {s : PM} {es : List PE} {a : PV} (h : MI w D s es a) (hG : GT w D) (hP : GP s) (x : UInt8) (hn : es.length + 4 ≤ 100000) : Calls Tryd.prog 48 #[.pointer (some ⟨D, 0, none⟩), .int .u8 x.toNat] w (OK D (cmdTakeP s x).1 (es ++ (cmdTakeP s x).2) a w) := by
  have hx := x.toNat_lt
  unfold cmdTakeP
  by_cases h7 : x.toNat = 7
  · rw [if_pos h7, h7]
    exact cmd_bell D w (TO D s (es ++ strP s) a w) (TO D (s.at 0) (es ++ strP s) a w) (string_mi h hG hP (by omega)) fun w' ⟨a', hm, hf⟩ => (enter_mi hm 0).mono fun _ _ hp => ⟨hp.1, TO.trans hf hp.2⟩
  · rw [if_neg h7]
    by_cases h1 : x.toNat < 32 ∨ x.toNat = 127
    · rw [if_pos h1]
      rcases h1 with h1 | h1
      · exact (cmd_low D x.toNat (by omega) (by omega) w).mono fun _ _ hq => OK.stay h hq
      · exact (cmd_del D x.toNat (by omega) (by omega) w).mono fun _ _ hq => OK.stay h hq
    · rw [if_neg h1]
      exact cmd_pay D x.toNat (by omega) (by omega) w _ ((pay_mi h hP x).mono fun _ _ hq => hq.nil) fun _ _ hq => hq.1

end Go.Proofs.YtmmkcfjncpcabaaDoor
