/- scalars. -/
import Derived.Test.YtmmkcfjncpcabaaDoorMu
namespace Go.Proofs.YtmmkcfjncpcabaaDoor
open Go.RowKit

def printP (r : Nat) : PE := ⟨0, r, 0, 0, [], ⟨#[]⟩, ⟨#[]⟩, false⟩
def scal1 (s : PM) (r : Nat) : PM × List PE :=
  if r < 32 then (s, [execP r]) else if r = 127 then (s, []) else if 128 ≤ r ∧ r ≤ 159 then endEscP s ((r : Int) - 64) else (s, [printP r])
def scalP (s : PM) : List Nat → PM × List PE
  | [] => (s, [])
  | r :: rs => ((scalP (scal1 s r).1 rs).1, (scal1 s r).2 ++ (scalP (scal1 s r).1 rs).2)
theorem scalP_snoc (r : Nat) : ∀ (rs : List Nat) (s : PM), scalP s (rs ++ [r]) = ((scal1 (scalP s rs).1 r).1, (scalP s rs).2 ++ (scal1 (scalP s rs).1 r).2)
  | [], s => by simp [scalP]
  | q :: rs, s => by simp only [List.cons_append, scalP, scalP_snoc r rs, List.append_assoc]
theorem endEscP_len (s : PM) (x : Int) : (endEscP s x).2.length ≤ 1 := by
  unfold endEscP
  split
  · simp
  · split <;> simp
theorem scal1_len (s : PM) (r : Nat) : (scal1 s r).2.length ≤ 1 := by
  unfold scal1
  split
  · simp
  · split
    · simp
    · split
      · exact endEscP_len _ _
      · simp
theorem scalP_len : ∀ (rs : List Nat) (s : PM), (scalP s rs).2.length ≤ rs.length
  | [], _ => Nat.le_refl _
  | r :: rs, s => by
    have h1 := scal1_len s r
    have h2 := scalP_len rs (scal1 s r).1
    simp only [scalP, List.length_append, List.length_cons]
    omega
/-- The slice value '.slice A rs.length c' reads as the scalars rs, in a block that the parser's calls do not turn. -/
def RR (D : Nat) (a : PV) (w : World) (A : Option Addr) (rs : List Nat) : Prop :=
  rs ≠ [] → ∃ b off, A = some ⟨b, off, none⟩ ∧ b < w.heap.size ∧ ¬ Mut D a b ∧ ∀ k, k < rs.length → w.cell? ⟨b, off + k, none⟩ = some (.int .i32 (rs[k]?.getD 0 : Nat))
theorem RR.fr {D : Nat} {a a' : PV} {w w' : World} {A : Option Addr} {rs : List Nat} (h : RR D a w A rs) (hf : Fr D a a' w w') : RR D a' w' A rs := fun hne => by
  obtain ⟨b, off, e, hb, hm, hc⟩ := h hne
  refine ⟨b, off, e, Nat.lt_of_lt_of_le hb hf.kb.size, fun h => (hf.mu b h).elim hm (fun h => by omega), fun k hk => ?_⟩
  exact (World.cell?_of_block (a := ⟨b, off + k, none⟩) (hf.kb.block b hb hm)).trans (hc k hk)
theorem take_snocN (xs : List Nat) (k : Nat) (h : k < xs.length) : xs.take (k + 1) = xs.take k ++ [xs[k]?.getD 0] := by
  rw [List.take_succ_eq_append_getElem h, List.getElem?_eq_getElem h]; rfl
theorem scal_next {w wr w' : World} {D : Nat} {s : PM} {es : List PE} {a ak : PV} {rs : List Nat} {k : Nat} (hk : k < rs.length) (hf : Fr D a ak w wr) (h : TO D (scal1 (scalP s (rs.take k)).1 (rs[k]?.getD 0)).1 ((es ++ (scalP s (rs.take k)).2) ++ (scal1 (scalP s (rs.take k)).1 (rs[k]?.getD 0)).2) ak wr w') : TO D (scalP s (rs.take (k + 1))).1 (es ++ (scalP s (rs.take (k + 1))).2) a w w' := by
  rw [take_snocN rs k hk, scalP_snoc]
  rw [List.append_assoc] at h
  exact TO.trans hf h
set_option maxRecDepth 100000 in
set_option maxHeartbeats 4000000 in
theorem scalars_mi {w : World} {D : Nat} {s : PM} {es : List PE} {a : PV} (h : MI w D s es a) (A : Option Addr) (rs : List Nat) (c n : Nat) (hl : n = rs.length) (hR : RR D a w A rs) (hn : es.length + n ≤ 100000) : Calls Tryd.prog 31 #[.pointer (some ⟨D, 0, none⟩), .slice A n c] w (OK D (scalP s rs).1 (es ++ (scalP s rs).2) a w) := by
  have HI := Lib.hid h
  have HR := Lib.hid hR
  have HL := Lib.hid hl
  have HN := Lib.hid hn
  have hn9 : n ≤ 100000 := by omega
  clear h hR hl hn
  unfold OK
  go_enter Tryd.func31, Tryd.ntmps31
  go_wp2
  go_loopw [8] (fun i wr => ∃ k : Nat, k ≤ n ∧ i = .int .i64 k ∧ Hid (TO D (scalP s (rs.take k)).1 (es ++ (scalP s (rs.take k)).2) a w wr)) (fun i _ => n - (intOf i).toNat)
  case atStart => exact ⟨0, Nat.zero_le _, rfl, Lib.hid (by simpa [scalP] using ⟨a, HI.out, Fr.refl D a w⟩)⟩
  case round =>
    obtain ⟨k, hk, rfl, HK⟩ := hrel
    by_cases hlt : k < n
    · obtain ⟨ak, hm, hf⟩ := HK.out
      have hkl : k < rs.length := HL.out ▸ hlt
      obtain ⟨b, off, e, hblt, hnm, hc⟩ := (HR.out.fr hf) (fun e => by rw [e] at hkl; simp at hkl)
      subst e
      have hck := hc k hkl
      have hli : (k : Int) < n := by omega
      have hes : (es ++ (scalP s (rs.take k)).2).length ≤ 100000 := by
        have h1 := scalP_len (rs.take k) s
        have h2 := HN.out
        rw [List.length_take] at h1
        rw [List.length_append]
        omega
      have HNX : Hid (∀ w', TO D (scal1 (scalP s (rs.take k)).1 (rs[k]?.getD 0)).1 ((es ++ (scalP s (rs.take k)).2) ++ (scal1 (scalP s (rs.take k)).1 (rs[k]?.getD 0)).2) ak wr w' → TO D (scalP s (rs.take (k + 1))).1 (es ++ (scalP s (rs.take (k + 1))).2) a w w') := Lib.hid fun w' h => scal_next hkl hf h
      have HM := Lib.hid hm
      have HES := Lib.hid hes
      clear hc hm hf hnm hes hkl HK HR HL HN
      generalize rs[k]?.getD 0 = r at *
      by_cases h32 : r < 32
      · have HC : Hid (Calls Tryd.prog 34 #[.pointer (some ⟨D, 0, none⟩), .int .u8 r] wr (fun e w' => e = .returned (.tuple #[]) ∧ TO D (scalP s (rs.take (k + 1))).1 (es ++ (scalP s (rs.take (k + 1))).2) a w w')) := Lib.hid ((execute_mi HM.out HES.out r).mono fun _ _ hp => ⟨hp.1, HNX.out _ (by rw [show scal1 (scalP s (rs.take k)).1 r = ((scalP s (rs.take k)).1, [execP r]) from if_pos h32]; exact hp.2)⟩)
        have e1 : decide ((r : Int) < 32) = true := decide_eq_true (by omega)
        have e2 : (r : Int) < 32 := by omega
        clear HNX HM HES
        go_wp2_with (go_at_call 34; (with_reducible refine HC.out.mono ?_); rintro e w2 ⟨rfl, hp⟩; have HP := Lib.hid hp; clear hp)
        go_roundw
        case rel => exact ⟨k + 1, hlt, by go_num, HP⟩
        case measure => simp [intOf]; omega
      · have e1 : decide ((r : Int) < 32) = false := decide_eq_false (by omega)
        have n1 : ¬ (r : Int) < 32 := by omega
        by_cases h127 : r = 127
        · subst h127
          have HP : Hid (TO D (scalP s (rs.take (k + 1))).1 (es ++ (scalP s (rs.take (k + 1))).2) a w wr) := Lib.hid (HNX.out wr (by rw [show scal1 (scalP s (rs.take k)).1 127 = ((scalP s (rs.take k)).1, []) from rfl, List.append_nil]; exact ⟨ak, HM.out, Fr.refl D ak wr⟩))
          clear HNX HM HES
          go_wp2
          go_roundw
          case rel => exact ⟨k + 1, hlt, by go_num, HP⟩
          case measure => simp [intOf]; omega
        · have e2 : ((r : Int) == 127) = false := by simp; omega
          by_cases hc1 : 128 ≤ r ∧ r ≤ 159
          · have HC : Hid (Calls Tryd.prog 42 #[.pointer (some ⟨D, 0, none⟩), .int .u8 ((r : Int) - 64)] wr (fun e w' => e = .returned (.tuple #[]) ∧ TO D (scalP s (rs.take (k + 1))).1 (es ++ (scalP s (rs.take (k + 1))).2) a w w')) := Lib.hid ((endEsc_mi HM.out HES.out ((r : Int) - 64)).mono fun _ _ hp => ⟨hp.1, HNX.out _ (by rw [show scal1 (scalP s (rs.take k)).1 r = endEscP (scalP s (rs.take k)).1 ((r : Int) - 64) by unfold scal1; rw [if_neg h32, if_neg h127, if_pos hc1]]; exact hp.2)⟩)
            have e3 : decide ((128 : Int) ≤ r) = true := decide_eq_true (by omega)
            have e4 : decide ((r : Int) ≤ 159) = true := decide_eq_true (by omega)
            have l3 : (128 : Int) ≤ r := by omega
            have l4 : (r : Int) ≤ 159 := by omega
            clear HNX HM HES
            go_wp2_with (go_at_call 42; (with_reducible refine HC.out.mono ?_); rintro e w2 ⟨rfl, hp⟩; have HP := Lib.hid hp; clear hp)
            go_roundw
            case rel => exact ⟨k + 1, hlt, by go_num, HP⟩
            case measure => simp [intOf]; omega
          · have HC : Hid (Calls Tryd.prog 43 #[.pointer (some ⟨D, 0, none⟩), .agg #[.int .i64 0, .int .i32 r, .int .u8 0, .int .u8 0, .slice none 0 0, .string ⟨#[]⟩, .string ⟨#[]⟩, .bool false]] wr (fun e w' => e = .returned (.tuple #[]) ∧ TO D (scalP s (rs.take (k + 1))).1 (es ++ (scalP s (rs.take (k + 1))).2) a w w')) := Lib.hid ((tell_mi HM.out HES.out ⟨0, r, 0, 0, .slice none 0 0, ⟨#[]⟩, ⟨#[]⟩, false⟩ (printP r) ⟨rfl, rfl, rfl, rfl, rfl, rfl, rfl, none, 0, rfl, rg_nil _⟩).mono fun _ _ hp => ⟨hp.1, HNX.out _ (by rw [show scal1 (scalP s (rs.take k)).1 r = ((scalP s (rs.take k)).1, [printP r]) by unfold scal1; rw [if_neg h32, if_neg h127, if_neg hc1]]; exact hp.2)⟩)
            clear HNX HM HES
            by_cases hlo : 128 ≤ r
            · have e3 : decide ((128 : Int) ≤ r) = true := decide_eq_true (by omega)
              have e4 : decide ((r : Int) ≤ 159) = false := decide_eq_false (by omega)
              have l3 : (128 : Int) ≤ r := by omega
              have l4 : ¬ (r : Int) ≤ 159 := by omega
              go_wp2_with (go_at_call 43; (with_reducible refine HC.out.mono ?_); rintro e w2 ⟨rfl, hp⟩; have HP := Lib.hid hp; clear hp)
              go_roundw
              case rel => exact ⟨k + 1, hlt, by go_num, HP⟩
              case measure => simp [intOf]; omega
            · have e3 : decide ((128 : Int) ≤ r) = false := decide_eq_false (by omega)
              have l3 : ¬ (128 : Int) ≤ r := by omega
              go_wp2_with (go_at_call 43; (with_reducible refine HC.out.mono ?_); rintro e w2 ⟨rfl, hp⟩; have HP := Lib.hid hp; clear hp)
              go_roundw
              case rel => exact ⟨k + 1, hlt, by go_num, HP⟩
              case measure => simp [intOf]; omega
    · have : k = n := by omega
      subst this
      have HZ : Hid (TO D (scalP s rs).1 (es ++ (scalP s rs).2) a w wr) := Lib.hid (by
        have h := HK.out
        rw [HL.out, List.take_length] at h
        exact h)
      clear HK HI HR HL HN
      go_wp2
      go_end0
      exact ⟨rfl, HZ.out⟩

end Go.Proofs.YtmmkcfjncpcabaaDoor
