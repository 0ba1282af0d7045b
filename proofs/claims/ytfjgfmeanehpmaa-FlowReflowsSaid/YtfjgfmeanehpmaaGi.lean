/- The walk of cells.Mend. -/
import Derived.Test.YtfjgfmeanehpmaaGh
import Derived.Test.YtfjgfmeanehpmaaGe
namespace Go.Proofs.Ytfjgfmeanehpmaa
open Go.RowKit

/-- A slice of cells of one's own, its block no older than B. -/
def OC (B : Nat) (w : World) (v : Value) (l : List CC) : Prop :=
  (l = [] ∧ ∃ A c, v = .slice A 0 c) ∨ ∃ g c, v = .slice (some ⟨g, 0, none⟩) l.length c ∧ B ≤ g ∧ l.length ≤ c ∧ MC w g l
theorem OC.form {B : Nat} {w : World} {v : Value} {l : List CC} (h : OC B w v l) : ∃ A c, v = .slice A l.length c ∧ RC w w.heap.size A l := by
  rcases h with ⟨rfl, A, c, rfl⟩ | ⟨g, c, rfl, _, _, hM⟩
  · exact ⟨A, c, rfl, fun h => absurd rfl h⟩
  · exact ⟨_, c, rfl, fun _ => ⟨g, 0, rfl, hM.lt, fun k hk => by rw [Nat.zero_add]; exact hM.at' k hk⟩⟩
theorem OC.past {B : Nat} {w w' : World} {v : Value} {l : List CC} (h : OC B w v l) (hb : Below w.heap.size w w') : OC B w' v l := by
  rcases h with h | ⟨g, c, h1, h2, h3, h4⟩
  · exact .inl h
  · exact .inr ⟨g, c, h1, h2, h3, h4.past hb⟩
theorem MC.of_own {w : World} {B g n c : Nat} {l : List CC} (h : w.ownsRow B 54 8 (.slice (some ⟨g, 0, none⟩) n c) n (cellsC l)) (hn : n = l.length) : B ≤ g ∧ n ≤ c ∧ MC w g l ∨ l = [] := by
  subst hn
  rcases h.2 with ⟨_, h0⟩ | ⟨g', cap, cur, e, hb, hh, hc, h2, h3, ht⟩
  · exact .inr (List.eq_nil_of_length_eq_zero h0)
  · left
    injection e with e1 _ e3
    injection e1 with e1
    injection e1 with e1 _ _
    subst e1; subst e3
    refine ⟨hb, by omega, ⟨cur, hh⟩, fun k hk => C8.of fun j u hj => ?_⟩
    have hj8 : j < 8 := by have := (List.getElem?_eq_some_iff.1 hj).1; simpa [encC] using this
    have hx := cellsC_at l k j hk hj8
    rw [hj] at hx
    rw [cell_of_row w g _ cur _ _ hh]
    rw [← ht, List.getElem?_take] at hx
    split at hx
    · simpa using hx
    · cases hx
theorem OC.of_own {w : World} {B n : Nat} {v : Value} {l : List CC} (h : w.ownsRow B 54 8 v n (cellsC l)) (hn : n = l.length) : OC B w v l := by
  rcases h.2 with ⟨rfl, h0⟩ | ⟨g, cap, cur, e, _⟩
  · exact .inl ⟨List.eq_nil_of_length_eq_zero (by omega), none, 0, by rfl⟩
  · subst e
    rcases MC.of_own h hn with ⟨h1, h2, h3⟩ | h0
    · exact .inr ⟨g, cap, by rw [hn], h1, by omega, h3⟩
    · subst h0
      subst hn
      exact .inl ⟨rfl, _, _, rfl⟩
theorem Below.ofKG {B g : Nat} {w w1 w2 : World} (h : Below B w w1) (hk : KG g w1 w2) (hg : B ≤ g) (hB : B ≤ w1.heap.size) : Below B w w2 :=
  ⟨hk.os.trans h.os, hk.tape.trans h.tape, hk.output.trans h.output, Nat.le_trans h.size hk.size, fun k hlt => (hk.block k (by omega) (by omega)).trans (h.block k hlt)⟩
set_option maxRecDepth 100000 in
set_option maxHeartbeats 2000000 in
theorem mendc_none (A : Option Addr) (c : Nat) (w : World) : Calls Try.prog 47 #[.slice A 0 c] w fun e w' => e = .returned (.tuple #[]) ∧ w' = w := by
  go_enter Try.func47, Try.ntmps47
  go_wp2
  go_loopw [2] (fun q wr => q = .int .i64 0 ∧ wr = w) (fun _ _ => 0)
  case atStart => exact ⟨rfl, rfl⟩
  case round =>
    obtain ⟨rfl, rfl⟩ := hrel
    go_wp2
    go_end0
    exact ⟨rfl, rfl⟩
/-- mend of a row of one's own. -/
theorem mendo_any (B : Nat) (v : Value) (l : List CC) (hl : l.length ≤ 1000000) (w0 w : World) (hb : Below B w0 w) (hB : B ≤ w.heap.size) (h : OC B w v l) :
    Calls Try.prog 47 #[v] w fun e w' => e = .returned (.tuple #[]) ∧ OC B w' v (mendL l) ∧ Below B w0 w' ∧ w.heap.size ≤ w'.heap.size := by
  rcases h with ⟨rfl, A, c, rfl⟩ | ⟨g, c, rfl, hg, hc, hM⟩
  · refine (mendc_none A c w).mono fun e w' ⟨he, hw⟩ => ?_
    subst hw
    exact ⟨he, .inl ⟨rfl, A, c, rfl⟩, hb, Nat.le_refl _⟩
  · refine (mendc_any g l.length c l rfl hl hc w hM).mono fun e w' ⟨he, hM', hK⟩ => ?_
    exact ⟨he, .inr ⟨g, c, by rw [mendL_len], hg, by rw [mendL_len]; exact hc, hM'⟩, Below.ofKG hb hK hg hB, hK.size⟩
theorem mend_big (A : Option Addr) (l : List CC) (n c : Nat) (hn : n = l.length) (hl : n ≤ 100000) (w : World) (h : RC w w.heap.size A l) :
    Calls Try.prog 32 #[.slice A n c] w fun e w' => ∃ v, e = .returned v ∧ OC w.heap.size w' v (mendL l) ∧ Below w.heap.size w w' := by
  have HC := Lib.hid (cloneC_any A l n c hn hl)
  have HR := Lib.hid h
  have HM := Lib.hid (fun B v w0 w => mendo_any B v l (by omega) w0 w)
  have HN := Lib.hid hn
  clear hn h
  generalize mendL l = ml at *
  go_enter Try.func32, Try.ntmps32
  go_wp2_with (first
    | (go_at_call 46; (with_reducible refine (HC.out _ HR.out).mono ?_); rintro e w1 ⟨v, rfl, hb, ho⟩; have HO := Lib.hid (OC.of_own ho HN.out); have HB := Lib.hid hb; clear ho hb)
    | (go_at_call 47; (with_reducible refine (HM.out _ _ _ _ HB.out (HB.out).size HO.out).mono ?_); rintro e w2 ⟨rfl, ho2, hb2, _⟩; have HB2 := Lib.hid hb2; have HO2 := Lib.hid ho2; clear hb2 ho2))
  go_ret
  exact ⟨_, rfl, HO2.out, HB2.out⟩
theorem mend_any (A : Option Addr) (l : List CC) (n c : Nat) (hn : n = l.length) (hl : n ≤ 1000) (w : World) (h : RC w w.heap.size A l) :
    Calls Try.prog 32 #[.slice A n c] w fun e w' => ∃ v, e = .returned v ∧ OC w.heap.size w' v (mendL l) ∧ Below w.heap.size w w' :=
  mend_big A l n c hn (by omega) w h
end Go.Proofs.Ytfjgfmeanehpmaa
