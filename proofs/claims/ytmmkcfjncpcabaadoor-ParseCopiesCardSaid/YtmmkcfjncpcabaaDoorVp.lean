/- Rows of rows of numbers, known by their types; what Parse answers. -/
import Derived.Test.YtmmkcfjncpcabaaDoorPf
namespace Go.Proofs.YtmmkcfjncpcabaaDoor
open Go.RowKit

/-- A row of numbers, in a block of numbers. -/
def RIt (w : World) (A : Option Addr) (xs : List Int) : Prop :=
  xs ≠ [] → ∃ b off cur, A = some ⟨b, off, none⟩ ∧ w.heap[b]? = some (.cells cur 3 (0, 0)) ∧ ∀ k, k < xs.length → w.cell? ⟨b, off + k, none⟩ = some (.int .i64 (xs[k]?.getD 0))
/-- A row of rows of numbers, in a block of rows. -/
def RGt (w : World) (A : Option Addr) (L : List (List Int)) : Prop :=
  L ≠ [] → ∃ b off cur, A = some ⟨b, off, none⟩ ∧ w.heap[b]? = some (.cells cur 48 (0, 0)) ∧ ∀ i, i < L.length → ∃ Ai ci, w.cell? ⟨b, off + i, none⟩ = some (.slice Ai (L[i]?.getD []).length ci) ∧ RIt w Ai (L[i]?.getD []) ∧ (L[i]?.getD []).length ≤ ci
/-- Blocks of numbers, and of rows of numbers, are as they were. -/
def NT (w w' : World) : Prop := ∀ (b : Nat) (cur : Array Value), (w.heap[b]? = some (Obj.cells cur 3 (0, 0)) ∨ w.heap[b]? = some (Obj.cells cur 48 (0, 0))) → w'.heap[b]? = w.heap[b]?
theorem NT.below {w w' : World} (hb : Below w.heap.size w w') : NT w w' := fun b cur h => hb.block b (by
  rcases h with h | h
  · exact (Array.getElem?_eq_some_iff.1 h).1
  · exact (Array.getElem?_eq_some_iff.1 h).1)
theorem RIt.kept {w w' : World} {A : Option Addr} {xs : List Int} (h : RIt w A xs) (hk : NT w w') : RIt w' A xs := fun hne => by
  obtain ⟨b, off, cur, e, hh, hc⟩ := h hne
  have e1 := hk b cur (.inl hh)
  exact ⟨b, off, cur, e, e1.trans hh, fun k hk' => (World.cell?_of_block (a := ⟨b, off + k, none⟩) e1).trans (hc k hk')⟩
theorem RGt.kept {w w' : World} {A : Option Addr} {L : List (List Int)} (h : RGt w A L) (hk : NT w w') : RGt w' A L := fun hne => by
  obtain ⟨b, off, cur, e, hh, hc⟩ := h hne
  have e1 := hk b cur (.inr hh)
  refine ⟨b, off, cur, e, e1.trans hh, fun i hi => ?_⟩
  obtain ⟨Ai, ci, h1, h2, h3⟩ := hc i hi
  exact ⟨Ai, ci, (World.cell?_of_block (a := ⟨b, off + i, none⟩) e1).trans h1, h2.kept hk, h3⟩
theorem RIt.of_own {w : World} {B n c : Nat} {A : Option Addr} {xs : List Int} (h : w.ownsRow B 3 1 (.slice A n c) n (xs.map (Value.int .i64))) : RIt w A xs := fun hn => by
  obtain ⟨b, off, e, hlt, hc⟩ := RI.of_own h hn
  obtain ⟨cur, hh⟩ := own_type h (g := b) (by rw [e]; rfl)
  exact ⟨b, off, cur, e, hh, hc⟩
theorem RGt.of_rows {w : World} {B C n c : Nat} {A : Option Addr} {L : List (List Int)} {vals : List Value} (h : w.ownsRow B 48 1 (.slice A n c) n vals) (hn : n = L.length) (hr : RW w B C L vals) : RGt w A L := fun hne => by
  obtain ⟨b, off, e, hlt, hc⟩ := RG.of_rows h hn hr hne
  obtain ⟨cur, hh⟩ := own_type h (g := b) (by rw [e]; rfl)
  refine ⟨b, off, cur, e, hh, fun i hi => ?_⟩
  obtain ⟨Ai, ci, h1, _, h3⟩ := hc i hi
  have hrow := (hr.row i hi).1
  obtain ⟨Ai', ci', ei, _⟩ := own_form hrow
  have hvi : vals[i]? = some (.slice Ai' (L[i]?.getD []).length ci') := by
    have hl : i < vals.length := by rw [hr.len]; exact hi
    rw [List.getElem?_eq_getElem hl] at ei ⊢
    exact congrArg some ei
  obtain ⟨A', c', e', hA⟩ := own_form h
  injection e' with e1 _ _
  subst e1
  have hpos : 0 < n := by rw [hn]; exact List.length_pos_iff.2 hne
  obtain ⟨g, hg⟩ := hA hpos
  subst hg
  injection e with e
  injection e with e2 e3 _
  subst e2; subst e3
  have h4 := h.cellAt i (by omega)
  rw [Nat.zero_add, h4, hvi] at h1
  injection h1 with h1
  injection h1 with h5 _ h6
  subst h5; subst h6
  rw [ei] at hrow
  exact ⟨Ai', ci', by rw [Nat.zero_add, h4, hvi], RIt.of_own hrow, h3⟩
def ParseTag (l : List UInt8) (w : World) (e : Ending) (w' : World) : Prop :=
  (headL l = false ∧ e = .returned (.tuple #[.slice none 0 0, .bool false]) ∧ Below w.heap.size w w') ∨
  (headL l = true ∧ ∃ A c, e = .returned (.tuple #[.slice A (HZ l).length c, .bool true]) ∧ RGt w' A (HZ l) ∧ Below w.heap.size w w')
set_option maxRecDepth 100000 in
set_option maxHeartbeats 2000000 in
theorem parse_tag (s : ByteArray) (w : World) (hs : s.size ≤ 1000000) (ml : Int) (hm : w.cell? ⟨2, 0, none⟩ = some (.int .i64 ml)) :
    Calls Tryd.prog 57 #[.string s] w (ParseTag s.data.toList w) := by
  have HT : Hid (Calls Tryd.prog 65 #[.string s, .string ⟨#[48, 49, 50, 51, 52, 53, 54, 55, 56, 57, 59, 58]⟩] w fun e w' => e = .returned (.string ⟨(Lib.trimS s.data.toList headCs).toArray⟩) ∧ Below w.heap.size w w') :=
    Lib.hid (Tryd.strings_Trim s ⟨#[48, 49, 50, 51, 52, 53, 54, 55, 56, 57, 59, 58]⟩ w (by omega) (by decide) (ascii_of_all (by decide)))
  have HTR := Lib.hid (trim_head s.data.toList)
  obtain ⟨t, ht⟩ : ∃ t : ByteArray, t = ⟨(Lib.trimS s.data.toList headCs).toArray⟩ := ⟨_, rfl⟩
  have HTL : Hid (t.toList = Lib.trimS s.data.toList headCs) := Lib.hid (by rw [Lib.toList_data, ht])
  rw [← ht] at HT
  clear ht
  by_cases hh : headL s.data.toList = true
  · have h1 : t.toList = [] := by rw [HTL.out]; exact HTR.out.2 hh
    have h2 : t.toList.isEmpty = true := by rw [h1]; rfl
    have HH := Lib.hid hh
    have hd : ∀ x ∈ s.data.toList, 48 ≤ x.toNat ∧ x.toNat ≤ 59 := fun x hx => by
      have := List.all_eq_true.1 hh x hx
      simp [headB] at this
      omega
    have hml := block_lt_of_cell hm
    have HP : Hid (∀ w2, Below w.heap.size w w2 → Calls Tryd.prog 66 #[.string s, .string ⟨#[59]⟩, .int .i64 32, .func (.func 67) #[] #[.pointer (some ⟨w2.heap.size, 0, none⟩)]] (w2.alloc (.cells #[.slice none 0 0] 39)) (piecesOut_anyPost s.data.toList w2 w2.heap.size)) := Lib.hid fun w2 hb => by
      have hOI : OI w2 (w2.alloc (.cells #[.slice none 0 0] 39)) w2.heap.size [] (.slice none 0 0) := ⟨belA (Below.refl _ _) _, heap_alloc_new w2 _, [], World.ownsRow_nil _ _ _ _, RW.nil _ _ _⟩
      exact piecesOut_any s w2.heap.size w2 _ _ hOI hs hd ml ((hb.cell (p := ⟨2, 0, none⟩) hml).trans hm) (Nat.lt_of_lt_of_le hml hb.size)
    have HF : Hid (∀ w2 w3 v, Below w.heap.size w w2 → OI w2 w3 w2.heap.size (((splitB 59 s.data.toList).take 32).map GV) v → w3.cell? ⟨w2.heap.size, 0, none⟩ = some v ∧ (∃ A c, v = .slice A (HZ s.data.toList).length c ∧ RGt w3 A (HZ s.data.toList)) ∧ Below w.heap.size w w3) := Lib.hid fun w2 w3 v hb h => by
      rw [GZ_HZ] at h
      obtain ⟨vals, ho, hr⟩ := h.own
      obtain ⟨A, c, hv, _⟩ := own_form ho
      subst hv
      exact ⟨cell_of_one h.cell, ⟨A, c, rfl, RGt.of_rows ho rfl hr⟩, hb.trans (h.below.mono hb.size)⟩
    clear hh hd hm hml HTL HTR
    unfold ParseTag
    generalize hl : s.data.toList = l at *
    clear hl
    go_enter Tryd.func57, Tryd.ntmps57
    go_wp2_with (first
      | (go_at_call 65; (with_reducible refine HT.out.mono ?_); rintro e w2 ⟨rfl, hb2⟩; have HB2 := Lib.hid hb2; clear hb2)
      | (go_at_call 66; (with_reducible refine (HP.out w2 HB2.out).mono ?_); rintro e w3 ⟨v3, rfl, h3⟩; obtain ⟨hc3, ⟨A3, c3, rfl, hr3⟩, hb3⟩ := HF.out w2 w3 v3 HB2.out h3; have HR3 := Lib.hid hr3; have HB3 := Lib.hid hb3; clear h3 hr3 hb3))
    go_ret2
    exact .inr ⟨HH.out, A3, c3, rfl, HR3.out, HB3.out⟩
  · have hne : t.toList ≠ [] := by
      rw [HTL.out]
      exact fun e => hh (HTR.out.1 e)
    have h2 : t.toList.isEmpty = false := by
      cases h : t.toList with
      | nil => exact absurd h hne
      | cons a b => rfl
    have HH : Hid (headL s.data.toList = false) := Lib.hid (by simpa using hh)
    clear hh hm HTL HTR hne
    unfold ParseTag
    generalize hl : s.data.toList = l at *
    clear hl
    go_enter Tryd.func57, Tryd.ntmps57
    go_wp2_with (go_at_call 65; (with_reducible refine HT.out.mono ?_); rintro e w2 ⟨rfl, hb2⟩; have HB2 := Lib.hid hb2; clear hb2)
    go_ret2
    exact .inl ⟨HH.out, rfl, HB2.out⟩

end Go.Proofs.YtmmkcfjncpcabaaDoor
