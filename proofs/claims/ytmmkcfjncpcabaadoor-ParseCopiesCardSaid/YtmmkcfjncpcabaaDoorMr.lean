/- A byte has been taken into a row of the machine; the Decoder has stepped. -/
import Derived.Test.YtmmkcfjncpcabaaDoorMq
namespace Go.Proofs.YtmmkcfjncpcabaaDoor
open Go.RowKit

theorem hat_ne {v v' : Value} {w : World} {g : Nat} (hat : v'.ownBlock = v.ownBlock ∨ ∃ g, v'.ownBlock = some g ∧ w.heap.size ≤ g) (hs : g < w.heap.size) (hne : some g ≠ v.ownBlock) : some g ≠ v'.ownBlock := fun e => by
  rcases hat with h1 | ⟨g', h1, h2⟩
  · exact hne (e.trans h1)
  · rw [h1] at e
    have := Option.some.inj e
    omega
theorem MI.grown_head {w w' : World} {D : Nat} {s : PM} {es : List PE} {a : PV} {T : List UInt8} {v' : Value} (h : MI w D s es a) (hb : PB w' D { a with head := v' }) (ho : w'.ownsRow (D + 1) 5 1 v' T.length (Lib.byteCells T)) (hk : KB (fun i => i = D ∨ some i = a.head.ownBlock) w w') (hat : v'.ownBlock = a.head.ownBlock ∨ ∃ g, v'.ownBlock = some g ∧ w.heap.size ≤ g) : TO D { s with head := T } es a w w' := by
  have hkb : KB (Mut D a) w w' := ⟨hk.os, hk.tape, hk.output, hk.size, fun i hi hn => hk.block i hi (fun e => hn (e.elim .inl fun e => .inr (.inl e)))⟩
  have hnt := h.nt hkb
  obtain ⟨cs, hev, hl⟩ := h.evs
  have row_inter : ∀ g, some g = a.inter.ownBlock → ¬ (g = D ∨ some g = a.head.ownBlock) := fun g e1 e2 => by
    rcases e2 with rfl | e2
    · have := h.size e1 (.inr (.inl rfl)); omega
    · exact (h.d1 g e2).1 e1
  have row_pay : ∀ g, some g = a.pay.ownBlock → ¬ (g = D ∨ some g = a.head.ownBlock) := fun g e1 e2 => by
    rcases e2 with rfl | e2
    · have := h.size e1 (.inr (.inr (.inl rfl))); omega
    · exact (h.d1 g e2).2 e1
  have row_evs : ∀ g, some g = a.evs.ownBlock → ¬ (g = D ∨ some g = a.head.ownBlock) := fun g e1 e2 => by
    rcases e2 with rfl | e2
    · have := h.size e1 (.inr (.inr (.inr rfl))); omega
    · exact (h.evne e1).1 e2
  refine ⟨{ a with head := v' }, ⟨hb, h.pre, ho, (own_keeps h.inter hk (row_inter)), h.wrong, h.last, (own_keeps h.pay hk (row_pay)), h.cut, h.state, h.most, h.dec.block h.blk hb rfl rfl rfl rfl rfl, ⟨cs, (own_keeps hev hk (row_evs)), EvL.kept hnt _ _ hl⟩, fun g e => ⟨fun e2 => hat_ne hat (h.size e2 (.inr (.inl rfl))).1 (fun e3 => row_inter g e2 (.inr e3)) e, fun e2 => hat_ne hat (h.size e2 (.inr (.inr (.inl rfl)))).1 (fun e3 => row_pay g e2 (.inr e3)) e⟩, fun g e => h.d2 g e⟩, hkb, fun i hi => ?_⟩
  rcases hi with e | e | e | e | e
  · exact .inl (.inl e)
  · rcases hat with h1 | ⟨g, h1, h2⟩
    · exact .inl (.inr (.inl (e.trans h1)))
    · exact .inr (by rw [h1] at e; have := Option.some.inj e; omega)
  · exact .inl (.inr (.inr (.inl e)))
  · exact .inl (.inr (.inr (.inr (.inl e))))
  · exact .inl (.inr (.inr (.inr (.inr e))))
theorem MI.grown_inter {w w' : World} {D : Nat} {s : PM} {es : List PE} {a : PV} {T : List UInt8} {v' : Value} (h : MI w D s es a) (hb : PB w' D { a with inter := v' }) (ho : w'.ownsRow (D + 1) 5 1 v' T.length (Lib.byteCells T)) (hk : KB (fun i => i = D ∨ some i = a.inter.ownBlock) w w') (hat : v'.ownBlock = a.inter.ownBlock ∨ ∃ g, v'.ownBlock = some g ∧ w.heap.size ≤ g) : TO D { s with inter := T } es a w w' := by
  have hkb : KB (Mut D a) w w' := ⟨hk.os, hk.tape, hk.output, hk.size, fun i hi hn => hk.block i hi (fun e => hn (e.elim .inl fun e => .inr (.inr (.inl e))))⟩
  have hnt := h.nt hkb
  obtain ⟨cs, hev, hl⟩ := h.evs
  have row_head : ∀ g, some g = a.head.ownBlock → ¬ (g = D ∨ some g = a.inter.ownBlock) := fun g e1 e2 => by
    rcases e2 with rfl | e2
    · have := h.size e1 (.inl rfl); omega
    · exact (h.d1 g e1).1 e2
  have row_pay : ∀ g, some g = a.pay.ownBlock → ¬ (g = D ∨ some g = a.inter.ownBlock) := fun g e1 e2 => by
    rcases e2 with rfl | e2
    · have := h.size e1 (.inr (.inr (.inl rfl))); omega
    · exact h.d2 g e2 e1
  have row_evs : ∀ g, some g = a.evs.ownBlock → ¬ (g = D ∨ some g = a.inter.ownBlock) := fun g e1 e2 => by
    rcases e2 with rfl | e2
    · have := h.size e1 (.inr (.inr (.inr rfl))); omega
    · exact (h.evne e1).2.1 e2
  refine ⟨{ a with inter := v' }, ⟨hb, h.pre, (own_keeps h.head hk (row_head)), ho, h.wrong, h.last, (own_keeps h.pay hk (row_pay)), h.cut, h.state, h.most, h.dec.block h.blk hb rfl rfl rfl rfl rfl, ⟨cs, (own_keeps hev hk (row_evs)), EvL.kept hnt _ _ hl⟩, fun g e => ⟨hat_ne hat (h.size e (.inl rfl)).1 (fun e3 => row_head g e (.inr e3)), (h.d1 g e).2⟩, fun g e => fun e2 => hat_ne hat (h.size e2 (.inr (.inr (.inl rfl)))).1 (fun e3 => row_pay g e2 (.inr e3)) e⟩, hkb, fun i hi => ?_⟩
  rcases hi with e | e | e | e | e
  · exact .inl (.inl e)
  · exact .inl (.inr (.inl e))
  · rcases hat with h1 | ⟨g, h1, h2⟩
    · exact .inl (.inr (.inr (.inl (e.trans h1))))
    · exact .inr (by rw [h1] at e; have := Option.some.inj e; omega)
  · exact .inl (.inr (.inr (.inr (.inl e))))
  · exact .inl (.inr (.inr (.inr (.inr e))))
theorem MI.grown_pay {w w' : World} {D : Nat} {s : PM} {es : List PE} {a : PV} {T : List UInt8} {v' : Value} (h : MI w D s es a) (hb : PB w' D { a with pay := v' }) (ho : w'.ownsRow (D + 1) 5 1 v' T.length (Lib.byteCells T)) (hk : KB (fun i => i = D ∨ some i = a.pay.ownBlock) w w') (hat : v'.ownBlock = a.pay.ownBlock ∨ ∃ g, v'.ownBlock = some g ∧ w.heap.size ≤ g) : TO D { s with pay := T } es a w w' := by
  have hkb : KB (Mut D a) w w' := ⟨hk.os, hk.tape, hk.output, hk.size, fun i hi hn => hk.block i hi (fun e => hn (e.elim .inl fun e => .inr (.inr (.inr (.inl e)))))⟩
  have hnt := h.nt hkb
  obtain ⟨cs, hev, hl⟩ := h.evs
  have row_head : ∀ g, some g = a.head.ownBlock → ¬ (g = D ∨ some g = a.pay.ownBlock) := fun g e1 e2 => by
    rcases e2 with rfl | e2
    · have := h.size e1 (.inl rfl); omega
    · exact (h.d1 g e1).2 e2
  have row_inter : ∀ g, some g = a.inter.ownBlock → ¬ (g = D ∨ some g = a.pay.ownBlock) := fun g e1 e2 => by
    rcases e2 with rfl | e2
    · have := h.size e1 (.inr (.inl rfl)); omega
    · exact h.d2 g e1 e2
  have row_evs : ∀ g, some g = a.evs.ownBlock → ¬ (g = D ∨ some g = a.pay.ownBlock) := fun g e1 e2 => by
    rcases e2 with rfl | e2
    · have := h.size e1 (.inr (.inr (.inr rfl))); omega
    · exact (h.evne e1).2.2 e2
  refine ⟨{ a with pay := v' }, ⟨hb, h.pre, (own_keeps h.head hk (row_head)), (own_keeps h.inter hk (row_inter)), h.wrong, h.last, ho, h.cut, h.state, h.most, h.dec.block h.blk hb rfl rfl rfl rfl rfl, ⟨cs, (own_keeps hev hk (row_evs)), EvL.kept hnt _ _ hl⟩, fun g e => ⟨(h.d1 g e).1, hat_ne hat (h.size e (.inl rfl)).1 (fun e3 => row_head g e (.inr e3))⟩, fun g e => hat_ne hat (h.size e (.inr (.inl rfl))).1 (fun e3 => row_inter g e (.inr e3))⟩, hkb, fun i hi => ?_⟩
  rcases hi with e | e | e | e | e
  · exact .inl (.inl e)
  · exact .inl (.inr (.inl e))
  · exact .inl (.inr (.inr (.inl e)))
  · rcases hat with h1 | ⟨g, h1, h2⟩
    · exact .inl (.inr (.inr (.inr (.inl (e.trans h1)))))
    · exact .inr (by rw [h1] at e; have := Option.some.inj e; omega)
  · exact .inl (.inr (.inr (.inr (.inr e))))
theorem arr15 {W : World} {D : Nat} {cur : Array Value} {t : TypeId} (h : W.heap[D]? = some (.cells cur t (0, 0))) (k : Nat) : W.cell? ⟨D, k, none⟩ = cur[k]? := cell_of_row W D k _ _ _ h
/-- The Decoder has stepped. -/
theorem MI.dec_step {w w' : World} {D : Nat} {s : PM} {es : List PE} {a : PV} {ps : List Nat} (h : MI w D s es a) (hd : DecL w' D ps) (hg : GD D w w') : ∃ a', MI w' D { s with ps := ps } es a' ∧ Fr D a a' w w' ∧ ∀ i, Mut D a' i → Mut D a i := by
  have hblk := h.blk
  obtain ⟨cur, hc⟩ := hg.shape a.arr _ hblk
  have hrest : ∀ k, k < 9 ∨ 13 < k → cur[k]? = a.arr[k]? := fun k hk => by rw [← arr15 hc k, hg.rest k hk]; exact hblk.cell k
  obtain ⟨v0, h0⟩ := hd.room 0 (by omega)
  obtain ⟨v1, h1⟩ := hd.room 1 (by omega)
  obtain ⟨v2, h2⟩ := hd.room 2 (by omega)
  obtain ⟨v3, h3⟩ := hd.room 3 (by omega)
  have h4 := hd.left
  rw [arr15 hc] at h0 h1 h2 h3 h4
  have hb : PB w' D { a with w0 := .int .u8 v0, w1 := .int .u8 v1, w2 := .int .u8 v2, w3 := .int .u8 v3, left := .int .i64 (ps.length : Nat) } := by
    unfold PB
    rw [hc]
    have : cur = PV.arr { a with w0 := .int .u8 v0, w1 := .int .u8 v1, w2 := .int .u8 v2, w3 := .int .u8 v3, left := .int .i64 (ps.length : Nat) } := by
      apply Array.ext_getElem?
      intro k
      by_cases hk : k < 9 ∨ 13 < k
      · rw [hrest k hk]
        rcases hk with hk | hk
        · match k, hk with
          | 0, _ => rfl
          | 1, _ => rfl
          | 2, _ => rfl
          | 3, _ => rfl
          | 4, _ => rfl
          | 5, _ => rfl
          | 6, _ => rfl
          | 7, _ => rfl
          | 8, _ => rfl
        · by_cases hk2 : k = 14
          · subst hk2; rfl
          · rw [Array.getElem?_eq_none (by simp [PV.arr]; omega), Array.getElem?_eq_none (by simp [PV.arr]; omega)]
      · have : k = 9 ∨ k = 10 ∨ k = 11 ∨ k = 12 ∨ k = 13 := by omega
        rcases this with rfl | rfl | rfl | rfl | rfl
        · exact h0
        · exact h1
        · exact h2
        · exact h3
        · exact h4
    rw [this]
  have hkb := kb_of_grown (a := a) hg.g
  have hnt := h.nt hkb
  obtain ⟨cs, ho, hl⟩ := h.evs
  exact ⟨_, ⟨hb, h.pre, keep_row hg.g h.head, keep_row hg.g h.inter, h.wrong, h.last, keep_row hg.g h.pay, h.cut, h.state, h.most, hd, ⟨cs, keep_row hg.g ho, EvL.kept hnt _ _ hl⟩, h.d1, h.d2⟩, ⟨hkb, fun i hi => .inl hi⟩, fun i hi => hi⟩

end Go.Proofs.YtmmkcfjncpcabaaDoor
