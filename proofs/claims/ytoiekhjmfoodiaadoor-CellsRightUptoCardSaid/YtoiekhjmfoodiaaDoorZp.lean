/- For every row of cells that is together of bulk at most 1048576 the law CellsRight returns true, and the row reads as before. The condition: the bound; the two tables of widths and unicode/utf8's tables read as the program's and the library's own text lays them (utf8.first pinned, the others tied). -/
import Derived.Test.YtoiekhjmfoodiaaDoorZk
import Derived.Test.YtoiekhjmfoodiaaDoorHq
import Derived.Test.YtoiekhjmfoodiaaDoorCards
import Derived.Test.YtoiekhjmfoodiaaDoorTie
import Derived.SevenTiedAt
import Derived.Deep.DeepHandedRow
namespace Go.Proofs.YtoiekhjmfoodiaaDoor
open Go.ChangeShapes Go.WideShapes Go.ChangeAt Go.WideMaps Go.WideElems Go.RowKit

theorem bulk_part {H : Type} {d : DataW H} : ∀ {l : List (DataW H)}, d ∈ l → Rows.uptoBulk d ≤ Rows.uptoBulkAll l
  | x :: r, h => by
    simp only [Rows.uptoBulkAll]
    rcases List.mem_cons.1 h with rfl | h
    · omega
    · have := bulk_part h
      omega
theorem bulk_one {H : Type} (d : DataW H) : 1 ≤ Rows.uptoBulk d := by
  cases d with
  | lit l => cases l <;> simp [Rows.uptoBulk]
  | nil => simp [Rows.uptoBulk]
  | ptr d => simp [Rows.uptoBulk]
  | slice elems spare => simp [Rows.uptoBulk]
  | agg parts => simp [Rows.uptoBulk]
  | iface t d => simp [Rows.uptoBulk]
  | map entries => simp [Rows.uptoBulk]
  | held h => simp [Rows.uptoBulk]
theorem bulk_len {H : Type} : ∀ l : List (DataW H), l.length ≤ Rows.uptoBulkAll l
  | [] => Nat.zero_le _
  | x :: r => by
    have h1 := bulk_one x
    have h2 := bulk_len r
    simp only [Rows.uptoBulkAll, List.length_cons]
    omega
set_option maxRecDepth 100000 in
/-- A cell's marks are no longer than what the cell is together. -/
theorem cellB {H : Type} {enc : TypeId × Value → H} {W : World} {base : Nat} {keep : Nat → Bool} {b : Bool} {m : Nat} {cs : List Value} {d : DataW H × List MemPlace} (hl : cs.length = 8) (ht : DataW.trod enc Tryd.prog W base keep b m 44 cs = some d) :
    ∃ y : CC, cs = encC y ∧ y.m.size ≤ Rows.uptoBulk d.1 := by
  obtain ⟨v0, v1, v2, v3, v4, v5, v6, v7, rfl⟩ := list8 hl
  obtain ⟨xs, m', rfl, hd, hcl, hl4, hg⟩ := DataW.trod_struct Tryd.underlying44 ht
  have g0 : DataW.trod enc Tryd.prog W base keep b m' 21 (([v0, v1, v2, v3, v4, v5, v6, v7].drop 0).take (Tryd.prog.cellsOf 21)) = xs[0]? := hg 0 _ rfl
  have g1 : DataW.trod enc Tryd.prog W base keep b m' 9 (([v0, v1, v2, v3, v4, v5, v6, v7].drop 1).take (Tryd.prog.cellsOf 9)) = xs[1]? := hg 1 _ rfl
  have g2 : DataW.trod enc Tryd.prog W base keep b m' 3 (([v0, v1, v2, v3, v4, v5, v6, v7].drop 2).take (Tryd.prog.cellsOf 3)) = xs[2]? := hg 2 _ rfl
  have g3 : DataW.trod enc Tryd.prog W base keep b m' 35 (([v0, v1, v2, v3, v4, v5, v6, v7].drop 3).take (Tryd.prog.cellsOf 35)) = xs[3]? := hg 3 _ rfl
  have hx4 : xs.length = 4 := hl4
  rw [cI32L, List.getElem?_eq_getElem (by omega)] at g0
  rw [cStrL, List.getElem?_eq_getElem (by omega)] at g1
  rw [cIntL, List.getElem?_eq_getElem (by omega)] at g2
  rw [cAttrL, List.getElem?_eq_getElem (by omega)] at g3
  simp only [List.drop_zero, List.drop_succ_cons, List.take_succ_cons, List.take_zero] at g0 g1 g2 g3
  obtain ⟨z0, b0, _, w0⟩ := DataW.trod_int Tryd.underlying21 g0
  obtain ⟨s, b1, hxs, _⟩ := DataW.trod_string Tryd.underlying9 g1
  obtain ⟨z2, b2, _, _⟩ := DataW.trod_int Tryd.underlying3 g2
  obtain ⟨z3, z4, z5, z6, z7, rfl, rfl, rfl, rfl, rfl, _⟩ := attrL g3
  simp at b0 b1 b2
  subst b0; subst b1; subst b2
  refine ⟨⟨z0, s, z2, z3, z4, z5, z6, z7⟩, rfl, ?_⟩
  have e : d.1 = .agg (xs.map (·.1)) := by rw [hd]
  rw [e]
  have h1 := bulk_part (d := .lit (.string s.data.toList)) (l := xs.map (·.1)) (List.mem_map.2 ⟨xs[1]'(by omega), List.getElem_mem _, by rw [hxs]⟩)
  have h2 : Rows.uptoBulk (DataW.lit (H := H) (.string s.data.toList)) = s.data.toList.length + 1 := by rw [Rows.uptoBulk]
  have h3 : Rows.uptoBulk (DataW.agg (xs.map (·.1))) = Rows.uptoBulkAll (xs.map (·.1)) + 1 := by rw [Rows.uptoBulk]
  rw [h3]
  rw [h2] at h1
  have h4 : s.data.toList.length = s.size := by rw [Array.length_toList]; rfl
  show s.size ≤ _
  omega
set_option maxRecDepth 100000 in
/-- A slice of cells that came in, by its bulk. -/
theorem open_cellsB {H : Type} {enc : TypeId × Value → H} {W : World} {base : Nat} {keep : Nat → Bool} {b : Bool} {A : Option Addr} {n c : Nat} {d : DataW H} {p : List MemPlace} (h : DataW.Trod enc Tryd.prog W base keep b 22 (.slice A n c) d p) (hw : Rows.uptoBulk d ≤ 1048576) :
    ∃ l : List CC, n = l.length ∧ n ≤ c ∧ (A = none → c = 0) ∧ (∀ k, k < l.length → (Ac l k).m.size ≤ 1048576) ∧ n ≤ 1048576 ∧ RC W W.heap.size A l := by
  obtain ⟨fuel, hf⟩ := h
  rcases open_rows Tryd.underlying22 cCellL (by omega) hf with ⟨rfl, rfl, rfl, _⟩ | ⟨bk, off, sp, rfl, hnc, _, V, D, S, fu, hx, hel⟩
  · exact ⟨[], rfl, Nat.le_refl _, fun _ => rfl, fun k hk => by simp at hk, by omega, fun h => absurd rfl h⟩
  · have hx : d = .slice ((List.range n).map D) S := hx
    have hb1 : Rows.uptoBulkAll ((List.range n).map D) ≤ 1048576 := by
      rw [hx, Rows.uptoBulk] at hw
      omega
    obtain ⟨f, hf'⟩ : ∃ f : Nat → CC, ∀ i, i < n → V i = encC (f i) ∧ (f i).m.size ≤ Rows.uptoBulk (D i) := by
      have key : ∀ i, i < n → ∃ y : CC, V i = encC y ∧ y.m.size ≤ Rows.uptoBulk (D i) := fun i hi => by
        obtain ⟨_, hlen, _, _, p, hp⟩ := hel i hi
        exact cellB hlen hp
      exact ⟨fun i => if hi : i < n then (key i hi).choose else CC.zero, fun i hi => by
        have hk := (key i hi).choose_spec
        simp only [dif_pos hi]
        exact hk⟩
    have hAc : ∀ k, k < n → Ac ((List.range n).map f) k = f k := fun k hk => Ac_map n f k hk
    refine ⟨(List.range n).map f, by simp, hnc, (fun h => by cases h), fun k hk => ?_, ?_, fun hne => ?_⟩
    · have hk' : k < n := by simpa using hk
      rw [hAc k hk']
      have h1 := bulk_part (d := D k) (l := (List.range n).map D) (List.mem_map.2 ⟨k, List.mem_range.2 hk', rfl⟩)
      have h2 := (hf' k hk').2
      omega
    · have h1 := bulk_len ((List.range n).map D)
      rw [List.length_map, List.length_range] at h1
      omega
    · have hn0 : 0 < n := by
        rcases Nat.eq_zero_or_pos n with h0 | h0
        · subst h0; exact absurd rfl hne
        · exact h0
      obtain ⟨rfl, _, _, hlt, _⟩ := hel 0 hn0
      refine ⟨bk, off, rfl, hlt, fun k hk => ?_⟩
      have hk' : k < n := by simpa using hk
      rw [hAc k hk']
      obtain ⟨_, _, hat, _⟩ := hel k hk'
      exact C8.of fun j u hj => hat j u (by rw [(hf' k hk').1]; exact hj)
set_option maxRecDepth 100000 in
theorem right_reads (os : Os) {H : Type} (enc : TypeId × Value → H) : ∃ places, DataW.whole enc Tryd.prog (((World.doorLaid Tryd.prog 400 os).setRow 2 ((List.range 256).map fun i => Value.int .u8 (Lib.firstT i : Nat)).toArray).forCall (fun _ _ => 0) ⟨#[], #[.slice none 0 0], []⟩).memory Tryd.f3.params.toList Rows.cellsRightSpec.vars false #[Value.slice none 0 0].toList 8 = some ([.nil], [], places) :=
  ⟨[], by kernel_rfl⟩
set_option maxRecDepth 100000 in
theorem right_liftedUpto (os : Os) (started : os.Started) (H : Type) (enc : TypeId × Value → H) (F : Stop.Interp) :
    ReturnsInHanded {} Tryd.checked os 3 .any ((Rows.OpenSpec.upto Rows.cellsRightSpec).preRow enc Tryd.prog Tryd.f3 Rows.cellsRightUptoRow.domain false Rows.cellsRightUptoRow.laid) (((Rows.OpenSpec.upto Rows.cellsRightSpec).at F).post enc Tryd.prog Tryd.f3 false true false false) := by
  obtain ⟨places, hx⟩ := right_reads os enc
  refine returnsInHanded_of_row (C := Tryd.checked) (s := Rows.OpenSpec.upto Rows.cellsRightSpec) own started (by kernel_rfl) Tryd.func3
    ⟨((World.doorLaid Tryd.prog 400 os).setRow 2 ((List.range 256).map fun i => Value.int .u8 (Lib.firstT i : Nat)).toArray), fun _ _ => 0, ⟨#[], #[.slice none 0 0], []⟩, rfl, World.shaped_of_RefB (by kernel_rfl) (by kernel_rfl), rfl, (Input.okWide_of_okWideB (base := ((World.doorLaid Tryd.prog 400 os).setRow 2 ((List.range 256).map fun i => Value.int .u8 (Lib.firstT i : Nat)).toArray).heap.size) (by kernel_rfl)).2,
      OpenSpec.preRow_of_cond 8 hx (by kernel_rfl) (fun k hk => by cases hk; kernel_rfl) (by kernel_rfl) (startG_met os _), by
        simp only [Assume.holds]
        exact ⟨by simp, by simp, fun _ => Modest.zero, by simp, by simp⟩⟩ ?_
  intro W base args ds gs before hval0 hW _ hcond _ hL _ _
  have hval : ∀ (j : Nat) t v, Tryd.f3.params[j]? = some t → args[j]? = some v → Value.okWide Tryd.prog W .any base t v := hval0
  have hW' := hW
  obtain ⟨p, q, hA0, hV, rfl, hfz, hnd⟩ := hW
  have hA : DataW.TrodAll enc Tryd.prog W 0 (fun _ => true) true Tryd.f3.params.toList args.toList ds p := hA0
  rw [Tryd.params3] at hA hval
  obtain ⟨v0, d0, rfl, rfl, h0⟩ := trodAll_one hA
  obtain ⟨rfl, rfl⟩ := trodVars_none hV
  obtain ⟨a0, n0, c0, rfl⟩ := okWide_slice Tryd.underlying22 (hval 0 22 v0 rfl rfl)
  have hk := hcond _ rfl
  have hbulk : Rows.uptoBulk d0 ≤ 1048576 := by
    have h1 : Rows.uptoBulkAll ([d0] ++ []) ≤ 1048576 := of_decide_eq_true hk
    simp only [List.append_nil, Rows.uptoBulkAll] at h1
    omega
  obtain ⟨l, hn0, hcap0, hz0, hM0, hlen0, hR0⟩ := open_cellsB h0 hbulk
  have hT := gt_of_laid hL
  clear hA0 hval0
  simp only [List.append_nil] at hW'
  have hlt : ∀ x ∈ p, x.block < W.heap.size := fun x hx => by simpa using hW'.lt x hx
  refine (right_law _ l _ _ hn0 hcap0 (fun k hk => Nat.le_trans (hM0 k hk) (by decide)) W hT hR0).mono fun e W' ⟨he, hnx⟩ => ?_
  subst he
  refine ⟨_, rfl, ?_⟩
  refine ⟨_, _, _, [], p, [], hW', trodAll_mk1 (shut_bool Tryd.underlying4 _), trodAll_mk1 (Below.trod laidOut (by kernel_rfl) (of_decide_eq_true (by kernel_rfl)) h0 hnx (fun x hx => hlt x (by simp [hx]))), rfl, hnx.frame _, fun h => by cases h⟩
theorem right_saidUpto : Rows.CellsRightUptoSaid :=
  OpenClaim.holds_of_cond 3 Tryd.f3 rfl rfl rfl rfl rfl rfl rfl ⟨rfl, rfl, rfl, rfl, rfl⟩ rfl rfl rfl rfl rfl (by kernel_rfl) Tryd.func3 (by kernel_rfl)
    (of_decide_eq_true (by kernel_rfl)) (by unfold Func.isWrapper; first | (rw [if_pos (by decide +kernel)]; kernel_rfl) | (rw [if_neg (by decide +kernel)]; exact ⟨rfl, rfl⟩))
    (fun os started H enc _ F => by rw [OpenClaim.pre_eq_preRow]; exact right_liftedUpto os started H enc F)
theorem cellsRightUpto_card : Rows.CellsRightUptoCardSaid :=
  Claim7.holds_tied_plain_at .later [] [.data, .data, .data, .pinned] true (true, _) false
    right_saidUpto (fun _ h => by cases h) (by kernel_rfl) (fun _ h => by cases h) cellsRightUpto_row_tie rfl ⟨rfl, rfl⟩ (by kernel_rfl) rfl
    (fun f fn hf hfn => by
      obtain rfl : f = 3 := Option.some.inj ((show Tryd.prog.funcNamed "marquee/marqueelaw07.CellsRight" = some 3 by kernel_rfl).symm.trans hf) |>.symm
      obtain rfl : fn = Tryd.f3 := (Option.some.inj (Tryd.func3.symm.trans hfn)).symm
      exact ⟨by kernel_rfl, fun j t ht => by
        rw [Tryd.params3] at ht
        have hm : t ∈ [22] := by simpa using Array.mem_of_getElem? ht
        have hall : ([22].all fun u => !Tryd.prog.wantsStandIn u) = true := by kernel_rfl
        exact (show Tryd.prog.wantsStandIn t = false by simpa using List.all_eq_true.1 hall t hm)⟩)
    (by kernel_rfl)
#print axioms cellsRightUpto_card

end Go.Proofs.YtoiekhjmfoodiaaDoor
