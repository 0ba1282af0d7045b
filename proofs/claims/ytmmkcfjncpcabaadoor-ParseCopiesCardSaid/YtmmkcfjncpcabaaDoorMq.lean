/- How one operation's post is a step of the machine. -/
import Derived.Test.YtmmkcfjncpcabaaDoorMo
namespace Go.Proofs.YtmmkcfjncpcabaaDoor
open Go.RowKit

theorem keep_row {w w' : World} {D : Nat} {e : TypeId} {z : Nat} {v : Value} {n : Nat} {xs : List Value} (hg : w.grownBy w' (some D)) (h : w.ownsRow (D + 1) e z v n xs) : w'.ownsRow (D + 1) e z v n xs := h.kept hg (.inr (fun e => by have := (h.lt D e).1; omega))
theorem kb_of_grown {w w' : World} {D : Nat} {a : PV} (hg : w.grownBy w' (some D)) : KB (Mut D a) w w' := ⟨hg.os, hg.tape, hg.output, hg.size, fun i hi hn => hg.block i hi (fun e => hn (.inl (Option.some.inj e)))⟩
/-- Only the block itself has turned; rows stay, or go. -/
theorem MI.setD {w w' : World} {D : Nat} {s s' : PM} {es : List PE} {a b : PV} (h : MI w D s es a) (hb : PB w' D b) (hg : w.grownBy w' (some D))
    (hpre : b.pre = .int .u8 s'.pre) (hwrong : b.wrong = .bool s'.wrong) (hlast : b.last = .int .u8 s'.last) (hcut : b.cut = .bool s'.cut) (hstate : b.state = .int .i64 s'.state) (hmost : b.most = .int .i64 s'.most)
    (hhead : b.head = a.head ∧ s'.head = s.head ∨ b.head = .slice none 0 0 ∧ s'.head = []) (hinter : b.inter = a.inter ∧ s'.inter = s.inter ∨ b.inter = .slice none 0 0 ∧ s'.inter = []) (hpay : b.pay = a.pay ∧ s'.pay = s.pay ∨ b.pay = .slice none 0 0 ∧ s'.pay = [])
    (hevs : b.evs = a.evs) (hps : s'.ps = s.ps) (hw : b.w0 = a.w0 ∧ b.w1 = a.w1 ∧ b.w2 = a.w2 ∧ b.w3 = a.w3 ∧ b.left = a.left) : TO D s' es a w w' := by
  have hkb := kb_of_grown (a := a) hg
  have hnt := h.nt hkb
  obtain ⟨cs, ho, hl⟩ := h.evs
  obtain ⟨g0, g1, g2, g3, g4⟩ := hw
  have row : ∀ {v v' : Value} {T T' : List UInt8}, v' = v ∧ T' = T ∨ v' = .slice none 0 0 ∧ T' = [] → w.ownsRow (D + 1) 5 1 v T.length (Lib.byteCells T) → w'.ownsRow (D + 1) 5 1 v' T'.length (Lib.byteCells T') := fun hc ho => by
    rcases hc with ⟨rfl, rfl⟩ | ⟨rfl, rfl⟩
    · exact keep_row hg ho
    · exact World.ownsRow_nil _ _ _ _
  have own : ∀ {v v' : Value} {T T' : List UInt8}, v' = v ∧ T' = T ∨ v' = .slice none 0 0 ∧ T' = [] → ∀ g, some g = v'.ownBlock → some g = v.ownBlock := fun hc g e => by
    rcases hc with ⟨rfl, rfl⟩ | ⟨rfl, rfl⟩
    · exact e
    · cases e
  refine ⟨b, ⟨hb, hpre, row hhead h.head, row hinter h.inter, hwrong, hlast, row hpay h.pay, hcut, hstate, hmost, by rw [hps]; exact h.dec.block h.blk hb g0 g1 g2 g3 g4, ⟨cs, by rw [hevs]; exact keep_row hg ho, EvL.kept hnt _ _ hl⟩, fun g e => ⟨fun e2 => ?_, fun e2 => ?_⟩, fun g e e2 => ?_⟩, hkb, fun i hi => .inl ?_⟩
  · exact (h.d1 g (own hhead g e)).1 (own hinter g e2)
  · exact (h.d1 g (own hhead g e)).2 (own hpay g e2)
  · exact h.d2 g (own hinter g e) (own hpay g e2)
  · rcases hi with rfl | e | e | e | e
    · exact .inl rfl
    · exact .inr (.inl (own hhead i e))
    · exact .inr (.inr (.inl (own hinter i e)))
    · exact .inr (.inr (.inr (.inl (own hpay i e))))
    · exact .inr (.inr (.inr (.inr (by rw [hevs] at e; exact e))))
theorem MI.fresh {w w' : World} {D : Nat} {s : PM} {es : List PE} {a : PV} (h : MI w D s es a) (c : Bool) (hb : PB w' D (a.fresh c)) (hg : w.grownBy w' (some D)) : TO D (s.fresh c) es a w w' :=
  h.setD hb hg rfl rfl rfl rfl h.state h.most (.inr ⟨rfl, rfl⟩) (.inr ⟨rfl, rfl⟩) (.inr ⟨rfl, rfl⟩) rfl rfl ⟨rfl, rfl, rfl, rfl, rfl⟩
theorem MI.at {w w' : World} {D : Nat} {s : PM} {es : List PE} {a : PV} (h : MI w D s es a) (st : Int) (hb : PB w' D (a.at st)) (hg : w.grownBy w' (some D)) : TO D (s.at st) es a w w' :=
  h.setD hb hg rfl rfl rfl rfl rfl h.most (.inr ⟨rfl, rfl⟩) (.inr ⟨rfl, rfl⟩) (.inr ⟨rfl, rfl⟩) rfl rfl ⟨rfl, rfl, rfl, rfl, rfl⟩
theorem MI.setPre {w w' : World} {D : Nat} {s : PM} {es : List PE} {a : PV} (h : MI w D s es a) (x : Int) (hb : PB w' D { a with pre := .int .u8 x }) (hg : w.grownBy w' (some D)) : TO D { s with pre := x } es a w w' :=
  h.setD hb hg rfl h.wrong h.last h.cut h.state h.most (.inl ⟨rfl, rfl⟩) (.inl ⟨rfl, rfl⟩) (.inl ⟨rfl, rfl⟩) rfl rfl ⟨rfl, rfl, rfl, rfl, rfl⟩
theorem MI.setLast {w w' : World} {D : Nat} {s : PM} {es : List PE} {a : PV} (h : MI w D s es a) (x : Int) (hb : PB w' D { a with last := .int .u8 x }) (hg : w.grownBy w' (some D)) : TO D { s with last := x } es a w w' :=
  h.setD hb hg h.pre h.wrong rfl h.cut h.state h.most (.inl ⟨rfl, rfl⟩) (.inl ⟨rfl, rfl⟩) (.inl ⟨rfl, rfl⟩) rfl rfl ⟨rfl, rfl, rfl, rfl, rfl⟩
theorem MI.setCut {w w' : World} {D : Nat} {s : PM} {es : List PE} {a : PV} (h : MI w D s es a) (x : Bool) (hb : PB w' D { a with cut := .bool x }) (hg : w.grownBy w' (some D)) : TO D { s with cut := x } es a w w' :=
  h.setD hb hg h.pre h.wrong h.last rfl h.state h.most (.inl ⟨rfl, rfl⟩) (.inl ⟨rfl, rfl⟩) (.inl ⟨rfl, rfl⟩) rfl rfl ⟨rfl, rfl, rfl, rfl, rfl⟩
/-- Nothing that lay has turned. -/
theorem MI.past {w w' : World} {D : Nat} {s : PM} {es : List PE} {a : PV} (h : MI w D s es a) (hb : Below w.heap.size w w') : MI w' D s es a ∧ Fr D a a w w' := by
  have hg : w.grownBy w' (some D) := ⟨hb.os, hb.tape, hb.output, hb.size, fun i hi _ => hb.block i hi⟩
  have hp := h.blk.past hb
  obtain ⟨cs, ho, hl⟩ := h.evs
  exact ⟨⟨hp, h.pre, keep_row hg h.head, keep_row hg h.inter, h.wrong, h.last, keep_row hg h.pay, h.cut, h.state, h.most, h.dec.block h.blk hp rfl rfl rfl rfl rfl, ⟨cs, keep_row hg ho, EvL.kept (NT.below hb) _ _ hl⟩, h.d1, h.d2⟩, kb_of_grown hg, fun _ h => .inl h⟩

theorem MI.size {w : World} {D : Nat} {s : PM} {es : List PE} {a : PV} (h : MI w D s es a) : ∀ {v : Value} {g : Nat}, some g = v.ownBlock → (v = a.head ∨ v = a.inter ∨ v = a.pay ∨ v = a.evs) → g < w.heap.size ∧ D < g := fun e hv => by
  obtain ⟨cs, ho, _⟩ := h.evs
  rcases hv with rfl | rfl | rfl | rfl
  · have := own_lt' h.head e; omega
  · have := own_lt' h.inter e; omega
  · have := own_lt' h.pay e; omega
  · have := own_lt' ho e; omega
theorem MI.evne {w : World} {D : Nat} {s : PM} {es : List PE} {a : PV} (h : MI w D s es a) {g : Nat} (e : some g = a.evs.ownBlock) : some g ≠ a.head.ownBlock ∧ some g ≠ a.inter.ownBlock ∧ some g ≠ a.pay.ownBlock := by
  obtain ⟨cs, ho, _⟩ := h.evs
  obtain ⟨c0, h0⟩ := own_type ho e.symm
  refine ⟨fun e1 => ?_, fun e1 => ?_, fun e1 => ?_⟩
  · obtain ⟨c1, h1⟩ := own_type h.head e1.symm
    rw [h0] at h1; cases h1
  · obtain ⟨c1, h1⟩ := own_type h.inter e1.symm
    rw [h0] at h1; cases h1
  · obtain ⟨c1, h1⟩ := own_type h.pay e1.symm
    rw [h0] at h1; cases h1
/-- An event has been told. -/
theorem MI.told {w w' : World} {D n : Nat} {s : PM} {es : List PE} {a : PV} {cs : List Value} {e : EVal} {p : PE} {v' : Value} (h : MI w D s es a) (hcs : EvL w es cs) (hn : n = es.length) (hb : PB w' D { a with evs := v' }) (ho : w'.ownsRow (D + 1) 41 8 v' (n + 1) (cs ++ e.cells)) (hk : TK D a v' w w') (he : EOK w e p) : TO D s (es ++ [p]) a w w' := by
  subst hn
  obtain ⟨hk, hat⟩ := hk
  have hkb : KB (Mut D a) w w' := ⟨hk.os, hk.tape, hk.output, hk.size, fun i hi hn => hk.block i hi (fun e => hn (e.elim .inl fun e => .inr (.inr (.inr (.inr e)))))⟩
  have hnt := h.nt hkb
  refine ⟨{ a with evs := v' }, ⟨hb, h.pre, own_keeps h.head hk fun g e1 e2 => ?_, own_keeps h.inter hk fun g e1 e2 => ?_, h.wrong, h.last, own_keeps h.pay hk fun g e1 e2 => ?_, h.cut, h.state, h.most, h.dec.block h.blk hb rfl rfl rfl rfl rfl, ⟨_, by rw [List.length_append]; exact ho, EvL.snoc (he.kept hnt) _ _ (EvL.kept hnt _ _ hcs)⟩, h.d1, h.d2⟩, hkb, fun i hi => ?_⟩
  · rcases e2 with rfl | e2
    · have := h.size e1 (.inl rfl); omega
    · exact (h.evne e2).1 e1
  · rcases e2 with rfl | e2
    · have := h.size e1 (.inr (.inl rfl)); omega
    · exact (h.evne e2).2.1 e1
  · rcases e2 with rfl | e2
    · have := h.size e1 (.inr (.inr (.inl rfl))); omega
    · exact (h.evne e2).2.2 e1
  · rcases hi with hi | hi | hi | hi | hi
    · exact .inl (.inl hi)
    · exact .inl (.inr (.inl hi))
    · exact .inl (.inr (.inr (.inl hi)))
    · exact .inl (.inr (.inr (.inr (.inl hi))))
    · rcases hat with h1 | ⟨g, h1, h2⟩
      · exact .inl (.inr (.inr (.inr (.inr (hi.trans h1)))))
      · exact .inr (by rw [h1] at hi; have := Option.some.inj hi; omega)

end Go.Proofs.YtmmkcfjncpcabaaDoor
