/- Plain facts on what was read so far; a law for append whose source is owned, nil or not. -/
import Derived.Test.YtdhmpnjodcjjpaaDoorUz
import Derived.Laws.AppendOwnNone
namespace Go.Proofs.YtdhmpnjodcjjpaaDoor
open Go.RowKit Go.Shelf

theorem own_form2 {w : World} {base : Nat} {e : TypeId} {size : Nat} {v : Value} {k : Nat} {xs : List Value} (h : w.ownsRow base e size v k xs) :
    ∃ A c, v = .slice A k c ∧ (A = none → k = 0 ∧ c = 0) ∧ (∀ ad, A = some ad → ∃ g, ad = ⟨g, 0, none⟩) := by
  rcases h.2 with ⟨rfl, rfl⟩ | ⟨g, cap, cur, rfl, _⟩
  · exact ⟨none, 0, rfl, (fun _ => ⟨rfl, rfl⟩), (fun _ e => by cases e)⟩
  · exact ⟨_, cap, rfl, (fun e => by cases e), (fun ad e => ⟨g, (Option.some.inj e).symm⟩)⟩

theorem wpList_append_lot {P : Program} (w : World) {ops : Array Oper} {rest : List Oper} {o : Oper} {a : Act} {Q : Exit → Act → World → Prop} (hgd : o.guard = none) (s x : Operand) (t : TypeId)
    (ho : o.op = .call { callee := .builtin .append, args := #[s, x], argTypes := #[t, t] })
    (base : Nat) (e : TypeId) (i : TypeInfo) (z : Value) (size bytes : Nat) (ht : P.underlying t = some (.slice e)) (hi : P.info? e = some i) (hz : i.zero = some z)
    (hsize : i.size = size) (hby : i.bytes = bytes) (hzs : z.cells.size = size) (hsz : 0 < size)
    (v : Value) (n : Nat) (xs : List Value) (hs : a.eval s = v) (hown : w.ownsRow base e size v n xs)
    (A : Option Addr) (m c : Nat) (news : List Value) (hx : a.eval x = .slice A m c) (hA : A = none → m = 0 ∧ c = 0) (hl : news.length = m * size) (hnews : ∀ ad, A = some ad → ∀ j u, news[j]? = some u → w.cell? (ad.add j) = some u) (h1 : ∀ u ∈ news, u.oneCell' = true)
    (h63 : n + m ≤ maxLen) (hbytes : (n + m) * bytes ≤ 140737488355328) (hbase : base ≤ w.heap.size)
    (h : ∀ v' w', w'.ownsRow base e size v' (n + m) (xs ++ news) → w.grownBy w' v.ownBlock → wpList P ops Q rest (a.put o.dst v') w') : wpList P ops Q (o :: rest) a w := by
  cases A with
  | none =>
    obtain ⟨rfl, rfl⟩ := hA rfl
    have hn : news = [] := List.length_eq_zero_iff.1 (by rw [hl]; simp)
    subst hn
    exact wpList_append_own_none hgd s x t ho base e i size ht hi v n xs hs hown hx (h v w (by rw [Nat.add_zero, List.append_nil]; exact hown) (grown_refl _ _))
  | some ad => exact wpList_append_own w hgd s x t ho base e i z size bytes ht hi hz hsize hby hzs hsz v n xs hs hown ad m c news hx hl (hnews ad rfl) h1 h63 hbytes hbase (fun v' w' h2 h3 _ => h v' w' h2 h3)
/-- The cells that an owned row lends. -/
theorem own_news {w : World} {base k c : Nat} {e : TypeId} {A : Option Addr} {xs : List Value} (h : w.ownsRow base e 1 (.slice A k c) k xs) : ∀ ad, A = some ad → ∀ (j : Nat) (u : Value), xs[j]? = some u → w.cell? (ad.add j) = some u := fun ad hA j u hu => by
  obtain ⟨A', c', e', _, hg⟩ := own_form2 h
  injection e' with e1 _ _
  subst e1
  obtain ⟨g, rfl⟩ := hg ad hA
  subst hA
  have hl : xs.length = k := by have := h.1; simpa using this
  have hj : j < xs.length := (List.getElem?_eq_some_iff.1 hu).1
  rw [show (⟨g, 0, none⟩ : Addr).add j = ⟨g, 0 + j, none⟩ by unfold Addr.add; split <;> simp_all, Nat.zero_add, h.cellAt j (by omega), hu]

theorem ab_no {a b x lo hi : Nat} (hx : Lib.firstT a = x) (h8 : 3 ≤ x % 8) (hl : Lib.accLo (x / 16) = lo) (hh : Lib.accHi (x / 16) = hi) (h1 : lo ≤ b) (h2 : b ≤ hi) : fullB [a, b] = false := by
  rw [full_ab, hx, hl, hh]
  exact decide_eq_false (by omega)
theorem abc_no {a b c x lo hi : Nat} (hx : Lib.firstT a = x) (h8 : 4 ≤ x % 8) (hl : Lib.accLo (x / 16) = lo) (hh : Lib.accHi (x / 16) = hi) (h1 : lo ≤ b) (h2 : b ≤ hi) (h3 : 128 ≤ c) (h4 : c ≤ 191) : fullB [a, b, c] = false := by
  rw [full_abc, hx, hl, hh]
  exact decide_eq_false (by omega)
theorem a_no {a x : Nat} (hx : Lib.firstT a = x) (h8 : 2 ≤ x % 8) : fullB [a] = false := by
  unfold fullB fullN fullX
  refine decide_eq_false ?_
  simp [hx]
  omega
/-- What begins a scalar's bytes, and goes on, is a beginning. -/
theorem put_take (r : Int) (h : scalarB r = true) (j : Nat) (h1 : 1 ≤ j) (h2 : j < (putL r).length) : fullB ((putL r).take j) = false := by
  have hsc := of_decide_eq_true h
  obtain ⟨h0, _⟩ := scalarB_bd h
  obtain ⟨n, rfl⟩ := Int.eq_ofNat_of_zero_le h0
  unfold putL at h2 ⊢
  rw [if_pos h] at h2 ⊢
  by_cases a : (n : Int) < 128
  · rw [if_pos a] at h2; simp [putN] at h2; omega
  rw [if_neg a] at h2 ⊢
  by_cases b : (n : Int) < 2048
  · rw [if_pos b] at h2 ⊢
    obtain rfl : j = 1 := by simp [putN] at h2; omega
    simp only [putN, List.take_succ_cons, List.take_zero]
    exact a_no (firstT_2 (by omega) (by omega)) (by decide)
  rw [if_neg b] at h2 ⊢
  by_cases c : (n : Int) < 65536
  · rw [if_pos c] at h2 ⊢
    have hj : j = 1 ∨ j = 2 := by simp [putN] at h2; omega
    rcases (by omega : ((n : Int) / 64 / 64).toNat = 0 ∨ ((n : Int) / 64 / 64).toNat = 13 ∨ (1 ≤ ((n : Int) / 64 / 64).toNat ∧ ((n : Int) / 64 / 64).toNat ≤ 15 ∧ ((n : Int) / 64 / 64).toNat ≠ 13)) with e | e | e
    · rcases hj with rfl | rfl <;> simp only [putN, List.take_succ_cons, List.take_zero]
      · exact a_no (x := 19) (by rw [e]; rfl) (by decide)
      · exact ab_no (x := 19) (lo := 160) (hi := 191) (by rw [e]; rfl) (by decide) rfl rfl (by omega) (by omega)
    · rcases hj with rfl | rfl <;> simp only [putN, List.take_succ_cons, List.take_zero]
      · exact a_no (x := 35) (by rw [e]; rfl) (by decide)
      · exact ab_no (x := 35) (lo := 128) (hi := 159) (by rw [e]; rfl) (by decide) rfl rfl (by omega) (by omega)
    · rcases hj with rfl | rfl <;> simp only [putN, List.take_succ_cons, List.take_zero]
      · exact a_no (firstT_3 (by omega) (by omega) (by omega)) (by decide)
      · exact ab_no (lo := 128) (hi := 191) (firstT_3 (by omega) (by omega) (by omega)) (by decide) rfl rfl (by omega) (by omega)
  rw [if_neg c] at h2 ⊢
  have hj : j = 1 ∨ j = 2 ∨ j = 3 := by simp [putN] at h2; omega
  rcases (by omega : ((n : Int) / 64 / 64 / 64).toNat = 0 ∨ ((n : Int) / 64 / 64 / 64).toNat = 4 ∨ (1 ≤ ((n : Int) / 64 / 64 / 64).toNat ∧ ((n : Int) / 64 / 64 / 64).toNat < 4)) with e | e | e
  · rcases hj with rfl | rfl | rfl <;> simp only [putN, List.take_succ_cons, List.take_zero]
    · exact a_no (x := 52) (by rw [e]; rfl) (by decide)
    · exact ab_no (x := 52) (lo := 144) (hi := 191) (by rw [e]; rfl) (by decide) rfl rfl (by omega) (by omega)
    · exact abc_no (x := 52) (lo := 144) (hi := 191) (by rw [e]; rfl) (by decide) rfl rfl (by omega) (by omega) (by omega) (by omega)
  · rcases hj with rfl | rfl | rfl <;> simp only [putN, List.take_succ_cons, List.take_zero]
    · exact a_no (x := 68) (by rw [e]; rfl) (by decide)
    · exact ab_no (x := 68) (lo := 128) (hi := 143) (by rw [e]; rfl) (by decide) rfl rfl (by omega) (by omega)
    · exact abc_no (x := 68) (lo := 128) (hi := 143) (by rw [e]; rfl) (by decide) rfl rfl (by omega) (by omega) (by omega) (by omega)
  · rcases hj with rfl | rfl | rfl <;> simp only [putN, List.take_succ_cons, List.take_zero]
    · exact a_no (firstT_4 (by omega) (by omega)) (by decide)
    · exact ab_no (lo := 128) (hi := 191) (firstT_4 (by omega) (by omega)) (by decide) rfl rfl (by omega) (by omega)
    · exact abc_no (lo := 128) (hi := 191) (firstT_4 (by omega) (by omega)) (by decide) rfl rfl (by omega) (by omega) (by omega) (by omega)

theorem begF_spec (zs : List Nat) : (∀ j, 1 ≤ j → j < begF zs → j < zs.length ∧ fullB (zs.take (j + 1)) = false) ∧ (zs.length ≤ begF zs ∨ fullB (zs.take (begF zs + 1)) = true) := by
  unfold begF
  split
  · rename_i a
    exact ⟨fun j h1 h2 => by omega, a⟩
  rename_i a
  have a1 : ¬ zs.length ≤ 1 := fun h => a (.inl h)
  have a2 : fullB (zs.take 2) = false := by simpa using fun h => a (.inr h)
  split
  · rename_i b
    exact ⟨fun j h1 h2 => by obtain rfl : j = 1 := by omega
                             exact ⟨by omega, a2⟩, b⟩
  rename_i b
  have b1 : ¬ zs.length ≤ 2 := fun h => b (.inl h)
  have b2 : fullB (zs.take 3) = false := by simpa using fun h => b (.inr h)
  split
  · rename_i c
    refine ⟨fun j h1 h2 => ?_, c⟩
    rcases (by omega : j = 1 ∨ j = 2) with rfl | rfl
    · exact ⟨by omega, a2⟩
    · exact ⟨by omega, b2⟩
  rename_i c
  exact absurd (full4 zs (Nat.lt_of_not_le fun h => c (.inl h))) fun h => c (.inr h)
/-- Of what is no beginning: what is read first hangs on nothing behind it. -/
theorem first_more (zs ys : List Nat) (h8 : ∀ z ∈ zs ++ ys, z < 256) (hf : fullB zs = true) : firstF (zs ++ ys) = firstF zs ∧ fullB (zs ++ ys) = true := by
  have hp := fullB_pos hf
  have hz : zs ≠ [] := List.length_pos_iff.1 hp
  have h8' : ∀ z ∈ zs, z < 256 := fun z hz => h8 z (List.mem_append_left _ hz)
  have tk : ∀ j, j ≤ zs.length → (zs ++ ys).take j = zs.take j := fun j hj => by rw [List.take_append_of_le_length hj]
  have fm : ∀ d, fullB ((zs ++ ys).take (zs.length + d)) = true := fun d => by
    induction d with
    | zero => rw [Nat.add_zero, tk _ (Nat.le_refl _), List.take_length]; exact hf
    | succ d ih => exact full_more _ _ ih
  have hfull : fullB (zs ++ ys) = true := by
    have := fm ys.length
    rw [← List.length_append, List.take_length] at this
    exact this
  refine ⟨?_, hfull⟩
  rcases Classical.em (∃ n, 1 ≤ n ∧ n ≤ 4 ∧ n ≤ zs.length ∧ isB (zs.take n) = true) with ⟨n, h1, h2, h3, h4⟩ | hno
  · rw [first_is zs n h3 h4, first_is (zs ++ ys) n (by rw [List.length_append]; omega) (by rw [tk n h3]; exact h4), tk n h3]
  · have hn : ∀ n, 1 ≤ n → n ≤ 4 → n ≤ zs.length → isB (zs.take n) = false := fun n h1 h2 h3 => by
      cases hq : isB (zs.take n) with
      | false => rfl
      | true => exact absurd ⟨n, h1, h2, h3, hq⟩ hno
    have hn2 : ∀ n, 1 ≤ n → n ≤ 4 → n ≤ (zs ++ ys).length → isB ((zs ++ ys).take n) = false := fun n h1 h2 h3 => by
      rcases Nat.lt_or_ge zs.length n with hl | hl
      · cases hq : isB ((zs ++ ys).take n) with
        | false => rfl
        | true =>
          exfalso
          obtain ⟨hs, hp'⟩ := is_some hq
          have e : (putL (numZ ((zs ++ ys).take n))).take zs.length = zs := by
            rw [hp', List.take_take, Nat.min_eq_left (by omega), tk _ (Nat.le_refl _), List.take_length]
          have := put_take _ hs zs.length hp (by rw [hp', List.length_take]; omega)
          rw [e, hf] at this
          cases this
      · rw [tk n hl]; exact hn n h1 h2 hl
    rw [first_not zs h8' hz hn, first_not (zs ++ ys) h8 (by simp [hz]) hn2]
    congr 1
    obtain ⟨s1, s2⟩ := begF_spec zs
    have hb1 : 1 ≤ begF zs := by unfold begF; (repeat' split) <;> omega
    refine (begF_is (zs ++ ys) (begF zs) hb1 (fun j h1 h2 => ?_) ?_).symm
    · have := s1 j h1 h2
      exact ⟨by rw [List.length_append]; omega, by rw [tk _ (by omega)]; exact this.2⟩
    · rcases s2 with h | h
      · right
        have e : begF zs + 1 = zs.length + (begF zs + 1 - zs.length) := by omega
        rw [e]; exact fm _
      · by_cases hl : begF zs + 1 ≤ zs.length
        · rw [tk _ hl]; exact .inr h
        · right
          have e : begF zs + 1 = zs.length + (begF zs + 1 - zs.length) := by omega
          rw [e]; exact fm _
/-- What is settled stays settled. -/
theorem rd_append : ∀ (n : Nat) (zs ys : List Nat), zs.length ≤ n → (∀ z ∈ zs ++ ys, z < 256) → rdL (zs ++ ys) = rdL zs ++ rdL (zs.drop (sumB (rdL zs)) ++ ys)
  | 0, zs, ys, hn, _ => by
    have : zs = [] := List.length_eq_zero_iff.1 (by omega)
    subst this
    rfl
  | n + 1, zs, ys, hn, h8 => by
    cases hf : fullB zs with
    | false => rw [rdL_no zs hf]; rfl
    | true =>
      obtain ⟨e1, e2⟩ := first_more zs ys h8 hf
      have hb := firstF_bd zs (fullB_pos hf)
      have ed : (zs ++ ys).drop (firstF zs).2 = zs.drop (firstF zs).2 ++ ys := by rw [List.drop_append_of_le_length hb.2.2]
      rw [rdL_yes zs hf, rdL_yes (zs ++ ys) e2, e1, ed]
      have ih := rd_append n (zs.drop (firstF zs).2) ys (by rw [List.length_drop]; omega) (fun z hz => h8 z (by
        rcases List.mem_append.1 hz with hz | hz
        · exact List.mem_append_left _ (List.mem_of_mem_drop hz)
        · exact List.mem_append_right _ hz))
      rw [ih]
      have es : sumB (firstF zs :: rdL (zs.drop (firstF zs).2)) = (firstF zs).2 + sumB (rdL (zs.drop (firstF zs).2)) := by simp [sumB]
      rw [es, ← List.drop_drop]
      rfl
theorem sumB_append (a b : List (Nat × Nat)) : sumB (a ++ b) = sumB a + sumB b := by simp [sumB]
/-- What waits. -/
def restL (zs : List Nat) : List Nat := zs.drop (sumB (rdL zs))
theorem rest_snoc (zs : List Nat) (z : Nat) (h8 : ∀ x ∈ zs ++ [z], x < 256) : rdL (zs ++ [z]) = rdL zs ++ rdL (restL zs ++ [z]) ∧ restL (zs ++ [z]) = restL (restL zs ++ [z]) := by
  have e := rd_append zs.length zs [z] (Nat.le_refl _) h8
  have hs := (rd_sum zs.length zs (Nat.le_refl _) (fun x hx => h8 x (List.mem_append_left _ hx))).1
  refine ⟨e, ?_⟩
  unfold restL
  rw [e, sumB_append, ← List.drop_drop, List.drop_append_of_le_length hs]

end Go.Proofs.YtdhmpnjodcjjpaaDoor
