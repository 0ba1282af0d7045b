/- A step of both rings, whichever it is; what came in as calls. -/
import Derived.Test.YtehfejgalemhaaaOl
namespace Go.Proofs.Ytehfejgalemhaaa
open Go.RowKit

/-- Both rings hold the same, and no more than there is room for. -/
def T3 (w0 w : World) (D M room : Nat) : Prop := ∃ g L B1 B2, T2 w0 w D M room g L B1 g L B2 ∧ L.length ≤ room ∧ IntKind.u64.wrap g = g
def DonePost (w0 : World) (D M room : Nat) (e : Ending) (w' : World) : Prop := e = .returned (.bool true) ∧ T3 w0 w' D M room
theorem T3.past {w0 w w' : World} {D M room : Nat} (h : T3 w0 w D M room) (hb : Below w.heap.size w w') : T3 w0 w' D M room := by
  obtain ⟨g, L, B1, B2, h1, h2, h3⟩ := h
  exact ⟨g, L, B1, B2, h1.past hb, h2, h3⟩
theorem T3.below {w0 w : World} {D M room : Nat} (h : T3 w0 w D M room) : Below w0.heap.size w0 w := by
  obtain ⟨g, L, B1, B2, h1, _⟩ := h
  exact h1.below
theorem wrap_wrap (x : Int) : IntKind.u64.wrap (IntKind.u64.wrap x) = IntKind.u64.wrap x := by
  rw [IntKind.wrap_u64, IntKind.wrap_u64]
  omega
theorem pushG_wrap (room : Nat) (g : Int) (L : List (Int × Bool)) (h : IntKind.u64.wrap g = g) : IntKind.u64.wrap (pushG room g L) = pushG room g L := by
  unfold pushG
  split
  · exact h
  · exact wrap_wrap _
theorem clearG_wrap (g : Int) (L : List (Int × Bool)) (h : IntKind.u64.wrap g = g) : IntKind.u64.wrap (clearG g L) = clearG g L := by
  unfold clearG
  split
  · exact h
  · exact wrap_wrap _
theorem pushL_len (room : Nat) (L : List (Int × Bool)) (r : Int × Bool) (h : L.length ≤ room) : (pushL room L r).length ≤ room := by
  unfold pushL
  split
  · simpa using by assumption
  · simp; omega
theorem T3.of {w0 : World} {D M room : Nat} {g : Int} {L : List (Int × Bool)} {e : Ending} {w' : World} (h : DoesPost w0 D M room g L e w') (hl : L.length ≤ room) (hg : IntKind.u64.wrap g = g) : DonePost w0 D M room e w' := by
  obtain ⟨h1, B1, B2, h2⟩ := h
  exact ⟨h1, g, L, B1, B2, h2, hl, hg⟩
theorem does_done (w0 w : World) (D M room : Nat) (hroom : room ≤ 1000) (h : T3 w0 w D M room) (k n : Int) :
    Calls Try.prog 10 #[.pointer (some ⟨D, 0, none⟩), .pointer (some ⟨M, 0, none⟩), .agg #[.int .i64 k, .int .i64 n]] w (DonePost w0 D M room) := by
  obtain ⟨g, L, B1, B2, h, hl, hg⟩ := h
  by_cases h0 : k = 0
  · subst h0
    exact (does_pop w0 w D M room g L B1 B2 h (by omega) n).mono fun e w' hp => T3.of hp (by simp; omega) hg
  by_cases h1 : k = 1
  · subst h1
    exact (does_fill w0 w D M room g L B1 B2 h (by omega) n).mono fun e w' hp => T3.of hp (by rw [List.length_drop, LF_len]; omega) (wrap_wrap _)
  by_cases h2 : k = 2
  · subst h2
    by_cases hn : n < 0 ∨ (L.length : Int) ≤ n
    · exact (does_set_out w0 w D M room g L B1 B2 h n hn).mono fun e w' hp => T3.of hp hl hg
    · obtain ⟨i, rfl⟩ := Int.eq_ofNat_of_zero_le (show 0 ≤ n by omega)
      exact (does_set_in w0 w D M room g L B1 B2 h (by omega) i (by omega)).mono fun e w' hp => T3.of hp (by rw [List.length_set]; exact hl) hg
  by_cases h3 : k = 3
  · subst h3
    by_cases hn : n < 0 ∨ (L.length : Int) ≤ n
    · exact (does_at_out w0 w D M room g L B1 B2 h n hn).mono fun e w' hp => T3.of hp hl hg
    · obtain ⟨i, rfl⟩ := Int.eq_ofNat_of_zero_le (show 0 ≤ n by omega)
      exact (does_at_in w0 w D M room g L B1 B2 h (by omega) i (by omega)).mono fun e w' hp => T3.of hp hl hg
  by_cases h4 : k = 4
  · subst h4
    exact (does_clear w0 w D M room g L B1 B2 h (by omega) hg n).mono fun e w' hp => T3.of hp (Nat.zero_le _) (clearG_wrap g L hg)
  · exact (does_push w0 w D M room g L B1 B2 h (by omega) (by omega) k n h0 h1 h2 h3 h4).mono fun e w' hp => T3.of hp (pushL_len _ _ _ hl) (pushG_wrap _ _ _ hg)

/-- Both rings at first. -/
theorem T3.start {w0 w w' : World} {room : Nat} (hb0 : Below w0.heap.size w0 w) (hb : Below w.heap.size w w') (h : RM (fun _ => True) w' w.heap.size (.slice none 0 0) room 0 [] []) :
    T3 w0 (w'.alloc (.cells #[.int .i64 room, .slice none 0 0, .int .u64 0] 32)) w.heap.size w'.heap.size room := by
  have h1 := h.past (belA (Below.refl w'.heap.size w') (.cells #[.int .i64 room, .slice none 0 0, .int .u64 0] 32))
  have hlt := h.lt
  refine ⟨0, [], w.heap.size + 1, w'.heap.size + 1, ⟨none, 0, [], none, 0, [], h1, ⟨heap_alloc_new w' _, OR.nil _, trivial⟩, belA (bel0 hb0 hb) _, ⟨hb0.size, by omega, Nat.le_trans hb0.size hb.size, by omega⟩, fun g e => by simp [Value.ownBlock] at e, fun g e => by simp [Value.ownBlock] at e, ?_, ?_⟩, Nat.zero_le _, rfl⟩
  · simp; omega
  · simp

/-- A slice of calls reads as a list. -/
def ROp (w : World) (B : Nat) (A : Option Addr) (xs : List (Int × Int)) : Prop :=
  xs ≠ [] → ∃ b off, A = some ⟨b, off, none⟩ ∧ b < B ∧ ∀ k, k < xs.length → w.cell? ⟨b, off + k * 2, none⟩ = some (.int .i64 (xs[k]?.getD (0, 0)).1) ∧ w.cell? ⟨b, off + k * 2 + 1, none⟩ = some (.int .i64 (xs[k]?.getD (0, 0)).2)
theorem ROp.at {w w' : World} {A : Option Addr} {xs : List (Int × Int)} (h : ROp w w.heap.size A xs) (hb : Below w.heap.size w w') (k : Nat) (hk : k < xs.length) :
    ∃ b off z0 z1, A = some ⟨b, off, none⟩ ∧ b < w'.heap.size ∧ w'.cell? ⟨b, off + k * 2, none⟩ = some (.int .i64 z0) ∧ w'.cell? ⟨b, off + k * 2 + 1, none⟩ = some (.int .i64 z1) := by
  obtain ⟨b, off, e, hl, hc⟩ := h (fun e => by rw [e] at hk; simp at hk)
  obtain ⟨h1, h2⟩ := hc k hk
  exact ⟨b, off, _, _, e, Nat.lt_of_lt_of_le hl hb.size, (hb.cell (p := ⟨b, off + k * 2, none⟩) hl).trans h1, (hb.cell (p := ⟨b, off + k * 2 + 1, none⟩) hl).trans h2⟩

theorem len_t3 (w0 w : World) (D M room : Nat) (h : T3 w0 w D M room) : Calls Try.prog 11 #[.pointer (some ⟨D, 0, none⟩)] w fun e w' => ∃ m : Nat, e = .returned (.int .i64 m) ∧ m ≤ room ∧ w' = w := by
  obtain ⟨g, L, B1, B2, ⟨A, c, xs, A', c', xs', h1, _⟩, hl, hg⟩ := h
  exact (len_any w D _ room g L xs h1).mono fun e w' hp => ⟨L.length, hp.1, hl, hp.2⟩
end Go.Proofs.Ytehfejgalemhaaa
