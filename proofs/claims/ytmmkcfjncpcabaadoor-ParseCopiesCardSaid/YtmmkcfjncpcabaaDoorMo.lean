/- The machine, plain; a parser in memory; how one operation's post is a step of it. -/
import Derived.Test.YtmmkcfjncpcabaaDoorMn
namespace Go.Proofs.YtmmkcfjncpcabaaDoor
open Go.RowKit

/-- A parser. -/
structure PM where
  pre : Int
  head : List UInt8
  inter : List UInt8
  wrong : Bool
  last : Int
  pay : List UInt8
  cut : Bool
  state : Int
  most : Nat
  ps : List Nat
def PM.fresh (s : PM) (b : Bool) : PM := { s with pre := 0, head := [], inter := [], wrong := b, last := 0, pay := [], cut := false }
def PM.at (s : PM) (st : Int) : PM := { s.fresh false with state := st }
/-- An event. -/
structure PE where
  kind : Int
  r : Int
  byte : Int
  pre : Int
  nums : List (List Int)
  inter : ByteArray
  text : ByteArray
  cut : Bool
def EOK (w : World) (e : EVal) (p : PE) : Prop :=
  e.kind = p.kind ∧ e.r = p.r ∧ e.byte = p.byte ∧ e.pre = p.pre ∧ e.inter = p.inter ∧ e.text = p.text ∧ e.cut = p.cut ∧ ∃ A c, e.nums = .slice A p.nums.length c ∧ RGt w A p.nums
def EvL (w : World) : List PE → List Value → Prop
  | [], cs => cs = []
  | p :: ps, cs => ∃ e cs', cs = e.cells ++ cs' ∧ EOK w e p ∧ EvL w ps cs'
theorem EOK.kept {w w' : World} {e : EVal} {p : PE} (h : EOK w e p) (hk : NT w w') : EOK w' e p := by
  obtain ⟨h1, h2, h3, h4, h5, h6, h7, A, c, h8, h9⟩ := h
  exact ⟨h1, h2, h3, h4, h5, h6, h7, A, c, h8, h9.kept hk⟩
theorem EvL.kept {w w' : World} (hk : NT w w') : ∀ (ps : List PE) (cs : List Value), EvL w ps cs → EvL w' ps cs
  | [], _, h => h
  | _ :: ps, _, ⟨e, cs', h1, h2, h3⟩ => ⟨e, cs', h1, h2.kept hk, EvL.kept hk ps cs' h3⟩
theorem EvL.snoc {w : World} {e : EVal} {p : PE} (h : EOK w e p) : ∀ (ps : List PE) (cs : List Value), EvL w ps cs → EvL w (ps ++ [p]) (cs ++ e.cells)
  | [], cs, hc => by
    have hc : cs = [] := hc
    subst hc
    exact ⟨e, [], by simp, h, rfl⟩
  | _ :: ps, _, ⟨e1, cs', h1, h2, h3⟩ => ⟨e1, cs' ++ e.cells, by rw [h1, List.append_assoc], h2, EvL.snoc h ps cs' h3⟩

/-- What a call on the parser at D may turn. -/
def Mut (D : Nat) (a : PV) (i : Nat) : Prop := i = D ∨ some i = a.head.ownBlock ∨ some i = a.inter.ownBlock ∨ some i = a.pay.ownBlock ∨ some i = a.evs.ownBlock
/-- The parser at D, with its events so far. -/
structure MI (w : World) (D : Nat) (s : PM) (es : List PE) (a : PV) : Prop where
  blk : PB w D a
  pre : a.pre = .int .u8 s.pre
  head : w.ownsRow (D + 1) 5 1 a.head s.head.length (Lib.byteCells s.head)
  inter : w.ownsRow (D + 1) 5 1 a.inter s.inter.length (Lib.byteCells s.inter)
  wrong : a.wrong = .bool s.wrong
  last : a.last = .int .u8 s.last
  pay : w.ownsRow (D + 1) 5 1 a.pay s.pay.length (Lib.byteCells s.pay)
  cut : a.cut = .bool s.cut
  state : a.state = .int .i64 s.state
  most : a.most = .int .i64 s.most
  dec : DecL w D s.ps
  evs : ∃ cs, w.ownsRow (D + 1) 41 8 a.evs es.length cs ∧ EvL w es cs
  d1 : ∀ g, some g = a.head.ownBlock → some g ≠ a.inter.ownBlock ∧ some g ≠ a.pay.ownBlock
  d2 : ∀ g, some g = a.inter.ownBlock → some g ≠ a.pay.ownBlock
structure Fr (D : Nat) (a a' : PV) (w w' : World) : Prop where
  kb : KB (Mut D a) w w'
  mu : ∀ i, Mut D a' i → Mut D a i ∨ w.heap.size ≤ i
theorem Fr.refl (D : Nat) (a : PV) (w : World) : Fr D a a w w := ⟨⟨rfl, rfl, rfl, Nat.le_refl _, fun _ _ _ => rfl⟩, fun _ h => .inl h⟩
theorem Fr.trans {D : Nat} {a b c : PV} {w w1 w2 : World} (h : Fr D a b w w1) (k : Fr D b c w1 w2) : Fr D a c w w2 :=
  ⟨⟨k.kb.os.trans h.kb.os, k.kb.tape.trans h.kb.tape, k.kb.output.trans h.kb.output, Nat.le_trans h.kb.size k.kb.size, fun i hi hn =>
    (k.kb.block i (Nat.lt_of_lt_of_le hi h.kb.size) (fun hb => (h.mu i hb).elim hn (fun hs => by omega))).trans (h.kb.block i hi hn)⟩,
   fun i hi => (k.mu i hi).elim (h.mu i) (fun hs => .inr (Nat.le_trans h.kb.size hs))⟩
/-- What a step leaves. -/
def TO (D : Nat) (s' : PM) (es' : List PE) (a : PV) (w w' : World) : Prop := ∃ a', MI w' D s' es' a' ∧ Fr D a a' w w'
theorem TO.trans {D : Nat} {s2 : PM} {es2 : List PE} {a b : PV} {w w1 w2 : World} (hf : Fr D a b w w1) (h : TO D s2 es2 b w1 w2) : TO D s2 es2 a w w2 :=
  h.elim fun a' h => ⟨a', h.1, hf.trans h.2⟩

theorem own_lt' {w : World} {B : Nat} {e : TypeId} {z : Nat} {v : Value} {n : Nat} {xs : List Value} (h : w.ownsRow B e z v n xs) {g : Nat} (hg : some g = v.ownBlock) : B ≤ g ∧ g < w.heap.size := ⟨(h.lt g hg.symm).1, by
  obtain ⟨cur, hc⟩ := own_type h hg.symm
  exact lt_of_block hc⟩
theorem MI.low {w : World} {D : Nat} {s : PM} {es : List PE} {a : PV} (h : MI w D s es a) {i : Nat} (hi : Mut D a i) : D ≤ i ∧ i < w.heap.size := by
  obtain ⟨cs, ho, _⟩ := h.evs
  rcases hi with rfl | e | e | e | e
  · exact ⟨Nat.le_refl _, lt_of_block h.blk⟩
  · have := own_lt' h.head e; omega
  · have := own_lt' h.inter e; omega
  · have := own_lt' h.pay e; omega
  · have := own_lt' ho e; omega
theorem Fr.below {w w' : World} {D : Nat} {s : PM} {es : List PE} {a a' : PV} (h : MI w D s es a) (hf : Fr D a a' w w') : Below D w w' :=
  ⟨hf.kb.os, hf.kb.tape, hf.kb.output, hf.kb.size, fun i hi => hf.kb.block i (Nat.lt_trans hi (lt_of_block h.blk)) fun hm => by have := (h.low hm).1; omega⟩
theorem MI.nt {w w' : World} {D : Nat} {s : PM} {es : List PE} {a : PV} (h : MI w D s es a) (hk : KB (Mut D a) w w') : NT w w' := fun b cur hb => hk.block b (by
  rcases hb with hb | hb <;> exact lt_of_block hb) (by
  obtain ⟨cs, ho, _⟩ := h.evs
  have hD := h.blk
  unfold PB at hD
  rintro (rfl | e | e | e | e)
  · rcases hb with hb | hb <;> (rw [hD] at hb; cases hb)
  · obtain ⟨c1, h1⟩ := own_type h.head e.symm
    rcases hb with hb | hb <;> (rw [h1] at hb; cases hb)
  · obtain ⟨c1, h1⟩ := own_type h.inter e.symm
    rcases hb with hb | hb <;> (rw [h1] at hb; cases hb)
  · obtain ⟨c1, h1⟩ := own_type h.pay e.symm
    rcases hb with hb | hb <;> (rw [h1] at hb; cases hb)
  · obtain ⟨c1, h1⟩ := own_type ho e.symm
    rcases hb with hb | hb <;> (rw [h1] at hb; cases hb))
theorem DecL.block {w w' : World} {D : Nat} {ps : List Nat} {a b : PV} (h : DecL w D ps) (ha : PB w D a) (hb : PB w' D b) (e0 : b.w0 = a.w0) (e1 : b.w1 = a.w1) (e2 : b.w2 = a.w2) (e3 : b.w3 = a.w3) (e4 : b.left = a.left) : DecL w' D ps := by
  have hc : ∀ k, k < 5 → w'.cell? ⟨D, 9 + k, none⟩ = w.cell? ⟨D, 9 + k, none⟩ := fun k hk => by
    rw [ha.cell, hb.cell]
    match k, hk with
    | 0, _ => simp [PV.arr, e0]
    | 1, _ => simp [PV.arr, e1]
    | 2, _ => simp [PV.arr, e2]
    | 3, _ => simp [PV.arr, e3]
    | 4, _ => simp [PV.arr, e4]
  have hl := h.len
  exact ⟨lt_of_block hb, hl, h.byte, (hc 4 (by omega)).trans h.left, fun k hk => (hc k (by omega)).trans (h.wait k hk), fun k hk => by
    obtain ⟨v, hv⟩ := h.room k hk
    exact ⟨v, (hc k (by omega)).trans hv⟩, fun k hk => hb.free _⟩
theorem own_keeps {w w' : World} {B : Nat} {e : TypeId} {z : Nat} {v : Value} {n : Nat} {xs : List Value} (h : w.ownsRow B e z v n xs) {S : Nat → Prop} (hk : KB S w w') (hS : ∀ g, some g = v.ownBlock → ¬ S g) : w'.ownsRow B e z v n xs := by
  cases hv : v.ownBlock with
  | none =>
    exact h.2.elim (fun h2 => ⟨h.1, .inl h2⟩) (fun ⟨g, cap, cur, e1, _⟩ => by rw [e1] at hv; simp [Value.ownBlock] at hv)
  | some g =>
    have hb := hk.block g (own_lt' h hv.symm).2 (hS g hv.symm)
    refine ⟨h.1, h.2.imp id fun ⟨g', cap, cur, e1, e2, e3, e4⟩ => ?_⟩
    have hg : g' = g := by rw [e1] at hv; simpa [Value.ownBlock] using hv
    subst hg
    exact ⟨g', cap, cur, e1, e2, hb.trans e3, e4⟩

end Go.Proofs.YtmmkcfjncpcabaaDoor
