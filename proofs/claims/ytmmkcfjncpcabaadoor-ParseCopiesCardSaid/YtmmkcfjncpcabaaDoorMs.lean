/- The machine's small operations, in memory: each is a step of the plain machine. -/
import Derived.Test.YtmmkcfjncpcabaaDoorMr
namespace Go.Proofs.YtmmkcfjncpcabaaDoor
open Go.RowKit

/-- What always holds of a parser. -/
structure GP (s : PM) : Prop where
  head : headL s.head = true
  hlen : s.head.length ≤ 256
  most : s.most ≤ 65536
/-- A call that returns nothing and leaves a parser. -/
def OK (D : Nat) (s' : PM) (es' : List PE) (a : PV) (w : World) (e : Ending) (w' : World) : Prop := e = .returned (.tuple #[]) ∧ TO D s' es' a w w'
theorem OK.same {w : World} {D : Nat} {s : PM} {es : List PE} {a : PV} (h : MI w D s es a) : OK D s es a w (.returned (.tuple #[])) w := ⟨rfl, a, h, Fr.refl D a w⟩
theorem OK.ret {w w' : World} {D : Nat} {s : PM} {es : List PE} {a : PV} {e : Ending} (h : OK D s es a w e w') : e = .returned (.tuple #[]) := h.1
theorem enter_mi {w : World} {D : Nat} {s : PM} {es : List PE} {a : PV} (h : MI w D s es a) (st : Int) : Calls Tryd.prog 33 #[.pointer (some ⟨D, 0, none⟩), .int .i64 st] w (OK D (s.at st) es a w) :=
  (enter_any D a st s.state w h.blk h.state).mono fun _ _ hm => ⟨hm.1, h.at st hm.2.1 hm.2.2⟩
theorem tell_mi {w : World} {D : Nat} {s : PM} {es : List PE} {a : PV} (h : MI w D s es a) (hn : es.length ≤ 100000) (e : EVal) (p : PE) (he : EOK w e p) : Calls Tryd.prog 43 #[.pointer (some ⟨D, 0, none⟩), .agg #[.int .i64 e.kind, .int .i32 e.r, .int .u8 e.byte, .int .u8 e.pre, e.nums, .string e.inter, .string e.text, .bool e.cut]] w (OK D s (es ++ [p]) a w) := by
  obtain ⟨cs, ho, hl⟩ := h.evs
  obtain ⟨_, _, _, _, _, _, _, A, c, hnum, _⟩ := id he
  exact (tell_any D a es.length cs e w h.blk ho hn (by rw [hnum]; rfl)).mono fun _ _ ⟨v', h1, h2, h3, h4⟩ => ⟨h1, h.told hl rfl h2 h3 h4 he⟩
theorem rg_nil (w : World) : RGt w none [] := fun h => absurd rfl h
def execP (c : Int) : PE := ⟨1, 0, c, 0, [], ⟨#[]⟩, ⟨#[]⟩, false⟩
theorem execute_mi {w : World} {D : Nat} {s : PM} {es : List PE} {a : PV} (h : MI w D s es a) (hn : es.length ≤ 100000) (c : Int) : Calls Tryd.prog 34 #[.pointer (some ⟨D, 0, none⟩), .int .u8 c] w (OK D s (es ++ [execP c]) a w) := by
  obtain ⟨cs, ho, hl⟩ := h.evs
  exact (execute_any D a es.length cs c w h.blk ho hn).mono fun _ _ ⟨v', h1, h2, h3, h4⟩ => ⟨h1, h.told (e := execE c) hl rfl h2 h3 h4 ⟨rfl, rfl, rfl, rfl, rfl, rfl, rfl, none, 0, rfl, rg_nil w⟩⟩

def betweenP (s : PM) (x : UInt8) : PM := if s.wrong = true then s else if s.inter.length < 2 then { s with inter := s.inter ++ [x] } else s.fresh true
theorem between_mi {w : World} {D : Nat} {s : PM} {es : List PE} {a : PV} (h : MI w D s es a) (x : UInt8) : Calls Tryd.prog 58 #[.pointer (some ⟨D, 0, none⟩), .int .u8 x.toNat] w (OK D (betweenP s x) es a w) := by
  unfold betweenP
  have hwr := h.wrong
  by_cases hs : s.wrong = true
  · rw [if_pos hs]
    refine (between_wrong D a x.toNat w h.blk (hwr.trans (by rw [hs]))).mono fun _ _ ⟨h1, h2⟩ => ?_
    subst h1; subst h2
    exact OK.same h
  · rw [if_neg hs]
    have hw : a.wrong = .bool false := hwr.trans (by simpa using hs)
    by_cases hT : s.inter.length < 2
    · rw [if_pos hT]
      exact (between_add D a s.inter x w h.blk hw h.inter hT).mono fun _ _ ⟨v', h1, h2, h3, h4, h5⟩ => ⟨h1, h.grown_inter h2 h3 h4 h5⟩
    · rw [if_neg hT]
      obtain ⟨A, c, e, _⟩ := own_form h.inter
      exact (between_spoil D a x.toNat A s.inter.length c w h.blk hw e (by omega)).mono fun _ _ hm => ⟨hm.1, h.fresh true hm.2.1 hm.2.2⟩
def payP (s : PM) (x : UInt8) : PM := if s.wrong = true then s else if s.pay.length < s.most then { s with pay := s.pay ++ [x] } else { s with cut := true }
theorem pay_mi {w : World} {D : Nat} {s : PM} {es : List PE} {a : PV} (h : MI w D s es a) (hG : GP s) (x : UInt8) : Calls Tryd.prog 62 #[.pointer (some ⟨D, 0, none⟩), .int .u8 x.toNat] w (OK D (payP s x) es a w) := by
  unfold payP
  have hwr := h.wrong
  by_cases hs : s.wrong = true
  · rw [if_pos hs]
    refine (pay_wrong D a x.toNat w h.blk (hwr.trans (by rw [hs]))).mono fun _ _ ⟨h1, h2⟩ => ?_
    subst h1; subst h2
    exact OK.same h
  · rw [if_neg hs]
    have hw : a.wrong = .bool false := hwr.trans (by simpa using hs)
    by_cases hT : s.pay.length < s.most
    · rw [if_pos hT]
      exact (pay_add D a s.pay x s.most w h.blk hw h.most h.pay hT hG.most).mono fun _ _ ⟨v', h1, h2, h3, h4, h5⟩ => ⟨h1, h.grown_pay h2 h3 h4 h5⟩
    · rw [if_neg hT]
      obtain ⟨A, c, e, _⟩ := own_form h.pay
      exact (pay_cut D a A s.pay.length c s.most x.toNat s.cut w h.blk hw h.most e h.cut (by omega)).mono fun _ _ hm => ⟨hm.1, h.setCut true hm.2.1 hm.2.2⟩

set_option maxRecDepth 100000 in
set_option maxHeartbeats 2000000 in
theorem par_between (D : Nat) (x : Int) (hx : x < 48) (w : World) (Q : Ending → World → Prop) (HC : Calls Tryd.prog 58 #[.pointer (some ⟨D, 0, none⟩), .int .u8 x] w Q) (hq : ∀ e w', Q e w' → e = .returned (.tuple #[])) :
    Calls Tryd.prog 60 #[.pointer (some ⟨D, 0, none⟩), .int .u8 x] w Q := by
  have HC2 : Hid (Calls Tryd.prog 58 #[.pointer (some ⟨D, 0, none⟩), .int .u8 x] w (fun e w' => e = .returned (.tuple #[]) ∧ Q e w')) := Lib.hid (HC.mono fun e w' h => ⟨hq e w' h, h⟩)
  have e1 : decide (x < 48) = true := decide_eq_true hx
  clear HC hq
  go_enter Tryd.func60, Tryd.ntmps60
  go_wp2_with (go_at_call 58; (with_reducible refine HC2.out.mono ?_); rintro e w2 ⟨rfl, hp⟩; have HP := Lib.hid hp; clear hp)
  go_end0
  exact HP.out
def parP (s : PM) (x : UInt8) : PM :=
  if x.toNat < 48 then betweenP s x else if s.wrong = true then s else if s.inter ≠ [] then s.fresh true
  else if x.toNat < 60 then (if s.head.length < 256 then { s with head := s.head ++ [x] } else s.fresh true)
  else if s.pre = 0 ∧ s.head = [] then { s with pre := x.toNat } else s.fresh true
theorem par_mi {w : World} {D : Nat} {s : PM} {es : List PE} {a : PV} (h : MI w D s es a) (x : UInt8) : Calls Tryd.prog 60 #[.pointer (some ⟨D, 0, none⟩), .int .u8 x.toNat] w (OK D (parP s x) es a w) := by
  unfold parP
  by_cases h48 : x.toNat < 48
  · rw [if_pos h48]
    exact par_between D x.toNat (by omega) w _ (between_mi h x) fun _ _ h => h.1
  · rw [if_neg h48]
    have hwr := h.wrong
    by_cases hs : s.wrong = true
    · rw [if_pos hs]
      refine (par_wrong D a x.toNat (by omega) w h.blk (hwr.trans (by rw [hs]))).mono fun _ _ ⟨h1, h2⟩ => ?_
      subst h1; subst h2
      exact OK.same h
    · rw [if_neg hs]
      have hw : a.wrong = .bool false := hwr.trans (by simpa using hs)
      obtain ⟨Ai, ci, ei, _⟩ := own_form h.inter
      obtain ⟨Ah, ch, eh, _⟩ := own_form h.head
      by_cases hi : s.inter = []
      · rw [if_neg (fun h => h hi)]
        rw [hi] at ei
        by_cases h60 : x.toNat < 60
        · rw [if_pos h60]
          by_cases hl : s.head.length < 256
          · rw [if_pos hl]
            exact (par_head D a s.head x Ai ci w h.blk hw ei h.head hl ⟨by omega, h60⟩).mono fun _ _ ⟨v', h1, h2, h3, h4, h5⟩ => ⟨h1, h.grown_head h2 h3 h4 h5⟩
          · rw [if_neg hl]
            exact (par_spoil D a x.toNat (by omega) Ai Ah ci s.head.length ch s.pre w h.blk hw ei eh h.pre (.inl ⟨by omega, by omega⟩)).mono fun _ _ hm => ⟨hm.1, h.fresh true hm.2.1 hm.2.2⟩
        · rw [if_neg h60]
          by_cases hp : s.pre = 0 ∧ s.head = []
          · rw [if_pos hp]
            rw [hp.2] at eh
            exact (par_prefix D a x.toNat (by omega) Ai Ah ci ch w h.blk hw ei eh (by rw [h.pre, hp.1])).mono fun _ _ hm => ⟨hm.1, h.setPre _ hm.2.1 hm.2.2⟩
          · rw [if_neg hp]
            refine (par_spoil D a x.toNat (by omega) Ai Ah ci s.head.length ch s.pre w h.blk hw ei eh h.pre (.inr ⟨by omega, ?_⟩)).mono fun _ _ hm => ⟨hm.1, h.fresh true hm.2.1 hm.2.2⟩
            by_cases hp0 : s.pre = 0
            · exact .inr (List.length_pos_iff.2 fun e => hp ⟨hp0, e⟩)
            · exact .inl hp0
      · rw [if_pos hi]
        exact (par_inter D a x.toNat (by omega) Ai s.inter.length ci (List.length_pos_iff.2 hi) w h.blk hw ei).mono fun _ _ hm => ⟨hm.1, h.fresh true hm.2.1 hm.2.2⟩

/-- An event has been told, and a state been entered. -/
theorem MI.toldAt {w w' : World} {D n : Nat} {s : PM} {es : List PE} {a : PV} {cs : List Value} {e : EVal} {p : PE} {v' : Value} (h : MI w D s es a) (hcs : EvL w es cs) (hn : n = es.length) (st : Int) (hb : PB w' D { a.at st with evs := v' }) (ho : w'.ownsRow (D + 1) 41 8 v' (n + 1) (cs ++ e.cells)) (hk : TK D a v' w w') (he : EOK w e p) : TO D (s.at st) (es ++ [p]) a w w' := by
  subst hn
  obtain ⟨hk, hat⟩ := hk
  have hkb : KB (Mut D a) w w' := ⟨hk.os, hk.tape, hk.output, hk.size, fun i hi hn => hk.block i hi (fun e => hn (e.elim .inl fun e => .inr (.inr (.inr (.inr e)))))⟩
  have hnt := h.nt hkb
  refine ⟨{ a.at st with evs := v' }, ⟨hb, rfl, World.ownsRow_nil _ _ _ _, World.ownsRow_nil _ _ _ _, rfl, rfl, World.ownsRow_nil _ _ _ _, rfl, rfl, h.most, h.dec.block h.blk hb rfl rfl rfl rfl rfl, ⟨_, by rw [List.length_append]; exact ho, EvL.snoc (he.kept hnt) _ _ (EvL.kept hnt _ _ hcs)⟩, fun g e => (by cases e), fun g e => (by cases e)⟩, hkb, fun i hi => ?_⟩
  rcases hi with hi | hi | hi | hi | hi
  · exact .inl (.inl hi)
  · cases hi
  · cases hi
  · cases hi
  · rcases hat with h1 | ⟨g, h1, h2⟩
    · exact .inl (.inr (.inr (.inr (.inr (hi.trans h1)))))
    · exact .inr (by rw [h1] at hi; have := Option.some.inj hi; omega)

def escPE (x : Int) (T : List UInt8) : PE := ⟨2, 0, x, 0, [], bsB T, ⟨#[]⟩, false⟩
def endEscP (s : PM) (x : Int) : PM × List PE :=
  if s.wrong = true then (s.at 0, []) else if ¬ beginsZ x = 0 ∧ s.inter = [] then (s.at (beginsZ x), []) else (s.at 0, [escPE x s.inter])
theorem endEsc_mi {w : World} {D : Nat} {s : PM} {es : List PE} {a : PV} (h : MI w D s es a) (hn : es.length ≤ 100000) (x : Int) : Calls Tryd.prog 42 #[.pointer (some ⟨D, 0, none⟩), .int .u8 x] w (OK D (endEscP s x).1 (es ++ (endEscP s x).2) a w) := by
  unfold endEscP
  have hwr := h.wrong
  by_cases hs : s.wrong = true
  · rw [if_pos hs, List.append_nil]
    exact (end_wrong D a x s.state w h.blk h.state (hwr.trans (by rw [hs]))).mono fun _ _ ⟨h1, h2⟩ => ⟨h1, h.at 0 h2.1 h2.2⟩
  · rw [if_neg hs]
    have hw : a.wrong = .bool false := hwr.trans (by simpa using hs)
    by_cases hb : ¬ beginsZ x = 0 ∧ s.inter = []
    · rw [if_pos hb, List.append_nil]
      obtain ⟨Ai, ci, ei, _⟩ := own_form h.inter
      rw [hb.2] at ei
      exact (end_enter D a x s.state ci Ai w h.blk h.state hw ei hb.1).mono fun _ _ ⟨h1, h2⟩ => ⟨h1, h.at _ h2.1 h2.2⟩
    · rw [if_neg hb]
      obtain ⟨cs, ho, hl⟩ := h.evs
      refine (end_tell D a es.length cs s.inter x s.state w h.blk h.state hw ho hn h.inter ?_).mono fun _ w' ⟨h1, v', h2, h3, h4⟩ => ⟨h1, ?_⟩
      · by_cases h0 : beginsZ x = 0
        · exact .inl h0
        · exact .inr fun e => hb ⟨h0, e⟩
      · exact h.toldAt (e := escE x s.inter) hl rfl 0 h2 h3 h4 ⟨rfl, rfl, rfl, rfl, rfl, rfl, rfl, none, 0, rfl, rg_nil w⟩

end Go.Proofs.YtmmkcfjncpcabaaDoor
