/- The Decoder's Step and End, in the machine; takeRest. -/
import Derived.Test.YtmmkcfjncpcabaaDoorMv
namespace Go.Proofs.YtmmkcfjncpcabaaDoor
open Go.RowKit

/-- What lies below a parser: the tables. -/
structure GT (w : World) (D : Nat) : Prop where
  ut : UT w
  d1 : 0 < D
  d2 : 1 < D
  ml : ML w
  d3 : 2 < D
theorem GT.below {w w' : World} {D : Nat} (h : GT w D) (hD : D < w.heap.size) (hb : Below D w w') : GT w' D :=
  ⟨⟨⟨fun c hc => (hb.cell (p := ⟨_, c, none⟩) h.d1).trans (h.ut.1.1 c hc), fun i hi => ⟨(hb.cell (p := ⟨_, 2 * i, none⟩) h.d2).trans (h.ut.1.2 i hi).1, (hb.cell (p := ⟨_, 2 * i + 1, none⟩) h.d2).trans (h.ut.1.2 i hi).2⟩⟩, by have := hb.size; have := h.d1; omega, by have := hb.size; have := h.d2; omega⟩, h.d1, h.d2, h.ml.imp fun ml hm => (hb.cell (p := ⟨2, 0, none⟩) h.d3).trans hm, h.d3⟩
theorem GT.fr {w w' : World} {D : Nat} {s : PM} {es : List PE} {a a' : PV} (h : GT w D) (hm : MI w D s es a) (hf : Fr D a a' w w') : GT w' D := h.below (lt_of_block hm.blk) (hf.below hm)

/-- Scalars that were read, in a row of their own. -/
def SR (D : Nat) (s' : PM) (es : List PE) (a : PV) (w : World) (rs : List Nat) (v : Value) (w' : World) : Prop :=
  ∃ A c a', v = .slice A rs.length c ∧ MI w' D s' es a' ∧ Fr D a a' w w' ∧ RR D a' w' A rs
def wait1 (s : PM) (x : Nat) : PM := { s with ps := (s.ps ++ [x]).drop (sumB (rdL (s.ps ++ [x]))) }
def read1 (s : PM) (x : Nat) : List Nat := (rdL (s.ps ++ [x])).map (·.1)
theorem step_mi {w : World} {D : Nat} {s : PM} {es : List PE} {a : PV} (h : MI w D s es a) (hG : GT w D) (x : Nat) (hx : x < 256) : Calls Tryd.prog 63 #[.pointer (some ⟨D, 9, none⟩), .int .u8 x] w (fun e w' => ∃ v, e = .returned v ∧ SR D (wait1 s x) es a w (read1 s x) v w') := by
  have hD := lt_of_block h.blk
  refine (step_any D x s.ps hx w h.dec hG.ut (by have := hG.d1; have := hG.d2; omega) (by have := hG.d1; omega) (by have := hG.d2; omega)).mono fun e w' hp => ?_
  obtain ⟨v, he, ho, hd, hg⟩ := hp
  obtain ⟨a', hm, hf, hmu⟩ := h.dec_step hd hg
  obtain ⟨A, c, hv, hA⟩ := own_form ho
  subst hv
  refine ⟨_, he, A, c, a', by rw [read1, List.length_map], hm, hf, fun hne => ?_⟩
  have hpos : 0 < (rdL (s.ps ++ [x])).length := by
    rw [← List.length_map (f := (·.1))]
    exact List.length_pos_iff.2 hne
  obtain ⟨g, rfl⟩ := hA hpos
  have hl := own_lt' ho (g := g) rfl
  refine ⟨g, 0, rfl, hl.2, fun hm => by have := (h.low (hmu g hm)).2; omega, fun k hk => ?_⟩
  rw [read1, List.length_map] at hk
  have hc := ho.cellAt k (by omega)
  rw [Nat.zero_add, hc, List.getElem?_map, read1, List.getElem?_map, List.getElem?_eq_getElem hk]
  rfl
def readE (s : PM) : List Nat := if s.ps = [] then [] else [65533]
theorem end_mi {w : World} {D : Nat} {s : PM} {es : List PE} {a : PV} (h : MI w D s es a) : Calls Tryd.prog 32 #[.pointer (some ⟨D, 9, none⟩)] w (fun e w' => ∃ v, e = .returned v ∧ SR D { s with ps := [] } es a w (readE s) v w') := by
  unfold readE
  by_cases hp : s.ps = []
  · rw [if_pos hp]
    refine (end_0 D w (by have := h.dec.left; rw [hp] at this; exact this)).mono fun e w' hh => ?_
    obtain ⟨h1, h2⟩ := hh
    subst h2
    refine ⟨_, h1, none, 0, a, rfl, ?_, Fr.refl D a w, fun hne => absurd rfl hne⟩
    rw [← hp]
    exact h
  · rw [if_neg hp]
    refine (end_pos D s.ps.length (List.length_pos_iff.2 hp) w h.dec.left (h.dec.free 4 (by omega))).mono fun e w' hh => ?_
    obtain ⟨h1, h2⟩ := hh
    have hd : DecL (w.setCell ⟨D, 13, none⟩ (.int .i64 0)) D [] := by
      have hb := h.blk.set (b := { a with left := .int .i64 0 }) 13 (.int .i64 0) rfl
      refine ⟨lt_of_block hb, by simp, fun p hp => by simp at hp, (hb.cell 13).trans rfl, fun k hk => by simp at hk, fun k hk => ?_, fun k _ => hb.free _⟩
      obtain ⟨v, hv⟩ := h.dec.room k hk
      refine ⟨v, ?_⟩
      rw [World.cell?_setCell_other _ _ _ _ (by simp; try omega)]
      exact hv
    have hg : GD D w (w.setCell ⟨D, 13, none⟩ (.int .i64 0)) := GD.set13 _ (GD.refl D w)
    obtain ⟨a', hm, hf, hmu⟩ := h.dec_step hd hg
    have hb : Below (w.setCell ⟨D, 13, none⟩ (.int .i64 0)).heap.size (w.setCell ⟨D, 13, none⟩ (.int .i64 0)) w' := by
      rw [h2]
      exact (Below.refl _ _).alloc (Nat.le_refl _) _
    obtain ⟨hm2, hf2⟩ := hm.past hb
    have hs : (w.setCell ⟨D, 13, none⟩ (.int .i64 0)).heap.size = w.heap.size := World.size_setCell ..
    refine ⟨_, h1, some ⟨w.heap.size, 0, none⟩, 1, a', rfl, hm2, hf.trans hf2, fun _ => ⟨w.heap.size, 0, rfl, ?_, fun hm => by have := (h.low (hmu _ hm)).2; omega, fun k hk => ?_⟩⟩
    · rw [h2]
      simp
    · have hk0 : k = 0 := by simpa using hk
      subst hk0
      rw [h2]
      have := heap_alloc_new (w.setCell ⟨D, 13, none⟩ (.int .i64 0)) (.cells #[.int .i32 65533] 21)
      rw [hs] at this
      exact (cell_of_row _ _ 0 _ _ _ this).trans rfl
/-- What is read at rest. -/
theorem scalars_sr {w w' : World} {D : Nat} {s' : PM} {es : List PE} {a : PV} {rs : List Nat} {v : Value} (h : SR D s' es a w rs v w') (hn : es.length + rs.length ≤ 100000) : Calls Tryd.prog 31 #[.pointer (some ⟨D, 0, none⟩), v] w' (OK D (scalP s' rs).1 (es ++ (scalP s' rs).2) a w) := by
  obtain ⟨A, c, a', rfl, hm, hf, hr⟩ := h
  exact (scalars_mi hm A rs c rs.length rfl hr hn).mono fun _ _ hp => ⟨hp.1, TO.trans hf hp.2⟩
def restP (s : PM) (x : Nat) : PM × List PE := scalP (wait1 s x) (read1 s x)
theorem rest_mi {w : World} {D : Nat} {s : PM} {es : List PE} {a : PV} (h : MI w D s es a) (hG : GT w D) (x : Nat) (hx : x < 256) (hn : es.length + 4 ≤ 100000) : Calls Tryd.prog 50 #[.pointer (some ⟨D, 0, none⟩), .int .u8 x] w (OK D (restP s x).1 (es ++ (restP s x).2) a w) :=
  rest_via D x w (SR D (wait1 s x) es a w (read1 s x)) (TO D (restP s x).1 (es ++ (restP s x).2) a w) (step_mi h hG x hx) fun v w' hv => scalars_sr hv (by
    have h1 := rdL_len (s.ps ++ [x])
    have h2 := h.dec.len
    rw [List.length_append, List.length_singleton] at h1
    rw [read1, List.length_map]
    omega)

end Go.Proofs.YtmmkcfjncpcabaaDoor
