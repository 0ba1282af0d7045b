/- The document's points: rows of places with ages; a store of them in memory. -/
import Derived.Test.YtnkdbpbfapdfeaaDf
import Derived.Laws.AppendOwn
import Derived.Laws.AppendOwnNone
namespace Go.Proofs.Ytnkdbpbfapdfeaa
open Go.RowKit

theorem grown_refl' (w : World) (row : Option Nat) : w.grownBy w row := ⟨rfl, rfl, rfl, Nat.le_refl _, fun _ _ _ => rfl⟩
theorem wpList_append_lot {P : Program} (w : World) {ops : Array Oper} {rest : List Oper} {o : Oper} {a : Act} {Q : Exit → Act → World → Prop} (hgd : o.guard = none) (s x : Operand) (t : TypeId)
    (ho : o.op = .call { callee := .builtin .append, args := #[s, x], argTypes := #[t, t] })
    (base : Nat) (e : TypeId) (i : TypeInfo) (z : Value) (size bytes : Nat) (ht : P.underlying t = some (.slice e)) (hi : P.info? e = some i) (hz : i.zero = some z)
    (hsize : i.size = size) (hby : i.bytes = bytes) (hzs : z.cells.size = size) (hsz : 0 < size)
    (v : Value) (n : Nat) (xs : List Value) (hs : a.eval s = v) (hown : w.ownsRow base e size v n xs)
    (A : Option Addr) (m c : Nat) (news : List Value) (hx : a.eval x = .slice A m c) (hA : A = none → m = 0 ∧ c = 0) (hl : news.length = m * size) (hnews : ∀ ad, A = some ad → ∀ j u, news[j]? = some u → w.cell? (ad.add j) = some u) (h1 : ∀ u ∈ news, u.oneCell' = true)
    (h63 : n + m ≤ maxLen) (hbytes : (n + m) * bytes ≤ 140737488355328) (hbase : base ≤ w.heap.size)
    (h : ∀ v' w', w'.ownsRow base e size v' (n + m) (xs ++ news) → w.grownBy w' v.ownBlock → wpList P ops Q rest (a.put o.dst v') w') : wpList P ops Q (o :: rest) a w := by
  cases A with
  | none =>
    obtain ⟨rfl, rfl⟩ := hA rfl
    have hn : news = [] := List.length_eq_zero_iff.1 (by rw [hl]; simp)
    subst hn
    exact wpList_append_own_none hgd s x t ho base e i size ht hi v n xs hs hown hx (h v w (by rw [Nat.add_zero, List.append_nil]; exact hown) (grown_refl' _ _))
  | some ad => exact wpList_append_own w hgd s x t ho base e i z size bytes ht hi hz hsize hby hzs hsz v n xs hs hown ad m c news hx hl (hnews ad rfl) h1 h63 hbytes hbase (fun v' w' h2 h3 _ => h v' w' h2 h3)
section
variable {α : Type}
/-- The cells of all elements, one behind the other. -/
def rowsV (enc : α → List Value) : List α → List Value
  | [] => []
  | x :: l => enc x ++ rowsV enc l
theorem rowsV_len (enc : α → List Value) (K : Nat) (hK : ∀ x, (enc x).length = K) : ∀ l, (rowsV enc l).length = l.length * K
  | [] => by simp [rowsV]
  | x :: l => by simp [rowsV, hK, rowsV_len enc K hK l, Nat.add_mul]; omega
theorem rowsV_app (enc : α → List Value) (l m : List α) : rowsV enc (l ++ m) = rowsV enc l ++ rowsV enc m := by
  induction l with
  | nil => rfl
  | cons x l ih => simp [rowsV, ih]
theorem rowsV_one (enc : α → List Value) (h1 : ∀ x, ∀ u ∈ enc x, u.oneCell' = true) : ∀ l, ∀ u ∈ rowsV enc l, u.oneCell' = true
  | [], u, h => by cases h
  | x :: l, u, h => by
    rcases List.mem_append.1 h with h | h
    · exact h1 x u h
    · exact rowsV_one enc h1 l u h
theorem rowsV_at (enc : α → List Value) (K : Nat) (hK : ∀ x, (enc x).length = K) : ∀ (l : List α) (i j : Nat) (x : α), l[i]? = some x → j < K → (rowsV enc l)[i * K + j]? = (enc x)[j]?
  | [], i, j, x, h, _ => by simp at h
  | y :: l, 0, j, x, h, hj => by
    obtain rfl : y = x := by simpa using h
    show (enc y ++ rowsV enc l)[0 * K + j]? = _
    rw [Nat.zero_mul, Nat.zero_add, List.getElem?_append_left (by rw [hK]; exact hj)]
  | y :: l, i + 1, j, x, h, hj => by
    have := rowsV_at enc K hK l i j x (by simpa using h) hj
    show (enc y ++ rowsV enc l)[(i + 1) * K + j]? = _
    have e : (i + 1) * K = i * K + K := by rw [Nat.add_mul, Nat.one_mul]
    rw [List.getElem?_append_right (by rw [hK]; omega), hK, show (i + 1) * K + j - K = i * K + j by omega, this]
/-- A slice of elements of K cells reads as a list. -/
def RK (enc : α → List Value) (K : Nat) (w : World) (A : Option Addr) (l : List α) : Prop :=
  l ≠ [] → ∃ b off, A = some ⟨b, off, none⟩ ∧ b < w.heap.size ∧ ∀ (i : Nat) (x : α), l[i]? = some x → ∀ (j : Nat) (u : Value), (enc x)[j]? = some u → w.cell? ⟨b, off + i * K + j, none⟩ = some u
theorem RK.past {enc : α → List Value} {K : Nat} {w w' : World} {A : Option Addr} {l : List α} (h : RK enc K w A l) (hb : Below w.heap.size w w') : RK enc K w' A l := fun hne => by
  obtain ⟨b, off, e, hl, hc⟩ := h hne
  exact ⟨b, off, e, Nat.lt_of_lt_of_le hl hb.size, fun i x hx j u hu => (hb.cell (p := ⟨b, off + i * K + j, none⟩) hl).trans (hc i x hx j u hu)⟩
theorem RK.of_own {enc : α → List Value} {K : Nat} (hK : ∀ x, (enc x).length = K) {w : World} {B n c : Nat} {T : TypeId} {A : Option Addr} {l : List α} (h : w.ownsRow B T K (.slice A n c) n (rowsV enc l)) (hn : n = l.length) : RK enc K w A l := fun hne => by
  subst hn
  rcases h.2 with ⟨_, h0⟩ | ⟨g', cap, cur, e, hb, hh, _, _, _, ht⟩
  · exact absurd (List.eq_nil_of_length_eq_zero h0) hne
  · injection e with e1 _ _
    refine ⟨g', 0, e1, (Array.getElem?_eq_some_iff.1 hh).1, fun i x hx j u hj => ?_⟩
    have hjK : j < K := by have := (List.getElem?_eq_some_iff.1 hj).1; rwa [hK] at this
    have h1 := rowsV_at enc K hK l i j x hx hjK
    rw [hj] at h1
    rw [Nat.zero_add, cell_of_row w g' _ cur _ _ hh]
    rw [← ht, List.getElem?_take] at h1
    split at h1
    · simpa using h1
    · cases h1
theorem RK.news {enc : α → List Value} {K : Nat} (hK : ∀ x, (enc x).length = K) (hK0 : 0 < K) {w : World} {b off : Nat} {l : List α} (h : ∀ (i : Nat) (x : α), l[i]? = some x → ∀ (j : Nat) (u : Value), (enc x)[j]? = some u → w.cell? ⟨b, off + i * K + j, none⟩ = some u) :
    ∀ j u, (rowsV enc l)[j]? = some u → w.cell? ((⟨b, off, none⟩ : Addr).add j) = some u := fun j u hj => by
  have hjl : j < l.length * K := by rw [← rowsV_len enc K hK]; exact (List.getElem?_eq_some_iff.1 hj).1
  have hadd : ((⟨b, off, none⟩ : Addr).add j) = ⟨b, off + j, none⟩ := by
    unfold Addr.add
    by_cases h1 : j = 0 <;> simp [h1]
  rw [hadd]
  have e : j = j / K * K + j % K := by rw [Nat.mul_comm]; exact (Nat.div_add_mod j K).symm
  have hd : j / K < l.length := (Nat.div_lt_iff_lt_mul hK0).2 hjl
  have h1 := rowsV_at enc K hK l (j / K) (j % K) l[j / K] (List.getElem?_eq_getElem hd) (Nat.mod_lt _ hK0)
  rw [← e, hj] at h1
  have h2 := h (j / K) l[j / K] (List.getElem?_eq_getElem hd) (j % K) u h1.symm
  rwa [Nat.add_assoc, ← e] at h2
end
theorem own_pastK {w w' : World} {B : Nat} {e : TypeId} {z : Nat} {v : Value} {n : Nat} {L : List Value} (h : w.ownsRow B e z v n L) (hb : Below w.heap.size w w') : w'.ownsRow B e z v n L :=
  ⟨h.1, h.2.imp id fun ⟨g, cap, cur, a1, a2, a3, a4⟩ => ⟨g, cap, cur, a1, a2, (hb.block g (Array.getElem?_eq_some_iff.1 a3).1).trans a3, a4⟩⟩
theorem own_formK {w : World} {base : Nat} {e : TypeId} {size : Nat} {v : Value} {k : Nat} {xs : List Value} (h : w.ownsRow base e size v k xs) : ∃ A c, v = .slice A k c ∧ k ≤ c := by
  rcases h.2 with ⟨rfl, rfl⟩ | ⟨g, cap, cur, rfl, _, _, h1, _⟩
  · exact ⟨none, 0, rfl, Nat.le_refl _⟩
  · exact ⟨_, cap, rfl, h1⟩
/-- What was below a row's base is so still when it has grown. -/
theorem own_below {w0 w w5 : World} {B : Nat} {e : TypeId} {z : Nat} {v : Value} {n : Nat} {L : List Value} (h : w.ownsRow B e z v n L) (hb : Below B w0 w) (hB : B ≤ w.heap.size) (hg : w.grownBy w5 v.ownBlock) : Below B w0 w5 :=
  hb.grown hg hB fun k e => (h.lt k e).1


/-- A place and its age. -/
abbrev Tr := Int × Int × Int
def encT (x : Tr) : List Value := [.int .i64 x.1, .int .i64 x.2.1, .int .i64 x.2.2]
theorem encT_len (x : Tr) : (encT x).length = 3 := rfl
theorem encT_one (x : Tr) : ∀ u ∈ encT x, u.oneCell' = true := fun u h => by
  simp only [encT, List.mem_cons, List.not_mem_nil, or_false] at h
  rcases h with rfl | rfl | rfl <;> rfl
theorem infoPoint : (Try.prog.info? 61).map (fun i => (i.zero, i.size, i.bytes)) = some (some (.agg #[.int .i64 0, .int .i64 0, .int .i64 0]), 3, 24) := by kernel_rfl
def Tz (L : List Tr) (i : Nat) : Tr := L[i]?.getD (0, 0, 0)
theorem newsT (W : World) (x : Tr) (t : TypeId) : ∀ (j : Nat) (u : Value), (rowsV encT [x])[j]? = some u → (W.alloc (.cells #[.int .i64 x.1, .int .i64 x.2.1, .int .i64 x.2.2] t)).cell? ((⟨W.heap.size, 0, none⟩ : Addr).add j) = some u := fun j u hj => by
  have hadd : ((⟨W.heap.size, 0, none⟩ : Addr).add j) = ⟨W.heap.size, j, none⟩ := by
    unfold Addr.add
    by_cases h1 : j = 0 <;> simp [h1]
  rw [hadd, cell_of_row _ _ j _ _ _ (heap_alloc_new W _), ← hj]
  simp [encT, rowsV]
/-- A slice of points reads as a list; its block holds points. -/
def TR (w : World) (A : Option Addr) (L : List Tr) : Prop :=
  L ≠ [] → ∃ b off cur, A = some ⟨b, off, none⟩ ∧ w.heap[b]? = some (.cells cur 61 (0, 0)) ∧ ∀ i, i < L.length → w.cell? ⟨b, off + i * 3, none⟩ = some (.int .i64 (Tz L i).1) ∧ w.cell? ⟨b, off + i * 3 + 1, none⟩ = some (.int .i64 (Tz L i).2.1) ∧ w.cell? ⟨b, off + i * 3 + 2, none⟩ = some (.int .i64 (Tz L i).2.2)
theorem TR.of_own {w : World} {B n c : Nat} {A : Option Addr} {L : List Tr} (h : w.ownsRow B 61 3 (.slice A n c) n (rowsV encT L)) (hn : n = L.length) : TR w A L := fun hne => by
  have hk := RK.of_own (enc := encT) encT_len h hn hne
  subst hn
  rcases h.2 with ⟨_, h0⟩ | ⟨g', cap, cur, e, hb, hh, _, _, _, ht⟩
  · exact absurd (List.eq_nil_of_length_eq_zero h0) hne
  · obtain ⟨b, off, e2, hl, hc⟩ := hk
    injection e with e1 _ _
    rw [e1] at e2
    injection e2 with e3
    injection e3 with e4 e5 _
    subst e4; subst e5
    refine ⟨g', 0, cur, e1, hh, fun i hi => ?_⟩
    have hx : L[i]? = some (Tz L i) := by unfold Tz; rw [List.getElem?_eq_getElem hi]; rfl
    exact ⟨hc i _ hx 0 _ rfl, hc i _ hx 1 _ rfl, hc i _ hx 2 _ rfl⟩
theorem TR.same {w w' : World} {A : Option Addr} {L : List Tr} (h : TR w A L) (hk : ∀ (b : Nat) (cur : Array Value), w.heap[b]? = some (Obj.cells cur 61 (0, 0)) → w'.heap[b]? = w.heap[b]?) : TR w' A L := fun hne => by
  obtain ⟨b, off, cur, e, hh, hc⟩ := h hne
  have e1 := hk b cur hh
  have hcell : ∀ o, w'.cell? ⟨b, o, none⟩ = w.cell? ⟨b, o, none⟩ := fun o => World.cell?_of_block (a := ⟨b, o, none⟩) e1
  exact ⟨b, off, cur, e, e1.trans hh, fun i hi => ⟨(hcell _).trans (hc i hi).1, (hcell _).trans (hc i hi).2.1, (hcell _).trans (hc i hi).2.2⟩⟩
/-- No block of points is among S. -/
def NP (S : Nat → Prop) (w : World) : Prop := ∀ (b : Nat) (cur : Array Value), w.heap[b]? = some (Obj.cells cur 61 (0, 0)) → ¬ S b
theorem TR.kept {S : Nat → Prop} {w w' : World} {A : Option Addr} {L : List Tr} (h : TR w A L) (hk : KB S w w') (hn : NP S w) : TR w' A L :=
  h.same fun b cur hh => hk.block b (Array.getElem?_eq_some_iff.1 hh).1 (hn b cur hh)
theorem TR.past {w w' : World} {A : Option Addr} {L : List Tr} (h : TR w A L) (hb : Below w.heap.size w w') : TR w' A L :=
  h.same fun b _ hh => hb.block b (Array.getElem?_eq_some_iff.1 hh).1
theorem TR.cell {w : World} {A : Option Addr} {L : List Tr} (h : TR w A L) (hne : L ≠ []) : ∃ b off, A = some ⟨b, off, none⟩ ∧ ∀ W, Below w.heap.size w W → b < W.heap.size ∧ ∀ i, i < L.length → W.cell? ⟨b, off + i * 3, none⟩ = some (.int .i64 (Tz L i).1) ∧ W.cell? ⟨b, off + i * 3 + 1, none⟩ = some (.int .i64 (Tz L i).2.1) ∧ W.cell? ⟨b, off + i * 3 + 2, none⟩ = some (.int .i64 (Tz L i).2.2) := by
  obtain ⟨b, off, cur, e, hh, hc⟩ := h hne
  refine ⟨b, off, e, fun W hb => ?_⟩
  obtain ⟨b', off', cur', e', hh', hc'⟩ := h.past hb hne
  rw [e] at e'
  injection e' with e'
  injection e' with e1 e2 _
  subst e1; subst e2
  exact ⟨(Array.getElem?_eq_some_iff.1 hh').1, hc'⟩
/-- The document's store lies at M: how many there may be, the last age, the points' slice. -/
structure QM (w : World) (M : Nat) (v : Value) (most next : Int) (L : List Tr) : Prop where
  d : w.heap[M]? = some (.cells #[.int .i64 most, .int .i64 next, v] 38 (0, 0))
  row : ∃ A c, v = .slice A L.length c ∧ L.length ≤ c ∧ ((A = none ∧ c = 0) ∨ ∃ g, A = some ⟨g, 0, none⟩) ∧ TR w A L
theorem QM.lt {w : World} {M : Nat} {v : Value} {most next : Int} {L : List Tr} (h : QM w M v most next L) : M < w.heap.size := (Array.getElem?_eq_some_iff.1 h.d).1
theorem QM.cells {w : World} {M : Nat} {v : Value} {most next : Int} {L : List Tr} (h : QM w M v most next L) :
    (w.cell? ⟨M, 0, none⟩ = some (.int .i64 most) ∧ w.cell? ⟨M, 1, none⟩ = some (.int .i64 next) ∧ w.cell? ⟨M, 2, none⟩ = some v) ∧ ∀ k, w.frozen? ⟨M, k, none⟩ = false :=
  ⟨⟨cell_of_row _ _ 0 _ _ _ h.d, cell_of_row _ _ 1 _ _ _ h.d, cell_of_row _ _ 2 _ _ _ h.d⟩, fun k => by simp [World.frozen?, h.d]⟩
theorem QM.kept {S : Nat → Prop} {w w' : World} {M : Nat} {v : Value} {most next : Int} {L : List Tr} (h : QM w M v most next L) (hk : KB S w w') (hM : ¬ S M) (hn : NP S w) : QM w' M v most next L :=
  ⟨(hk.block M h.lt hM).trans h.d, by obtain ⟨A, c, e, hc, hf, hr⟩ := h.row; exact ⟨A, c, e, hc, hf, hr.kept hk hn⟩⟩
theorem QM.past {w w' : World} {M : Nat} {v : Value} {most next : Int} {L : List Tr} (h : QM w M v most next L) (hb : Below w.heap.size w w') : QM w' M v most next L :=
  h.kept (KB.of_below (S := fun _ => False) hb) id (fun _ _ _ e => e)
theorem QM.np {w : World} {M : Nat} {v : Value} {most next : Int} {L : List Tr} (h : QM w M v most next L) : NP (fun i => i = M) w := fun b cur hh e => by
  subst e
  rw [h.d] at hh
  injection hh with hh
  injection hh with _ h1 _
  exact absurd h1 (by decide)
/-- Behind a call that made only new things: the store's slice is another one. -/
theorem QM.renew {w w1 : World} {M : Nat} {v : Value} {most next : Int} {L L1 : List Tr} (h : QM w M v most next L) (hb : Below w.heap.size w w1) {A : Option Addr} {c : Nat} (hc : L1.length ≤ c) (hf : (A = none ∧ c = 0) ∨ ∃ g, A = some ⟨g, 0, none⟩) (hr : TR w1 A L1) :
    (w1.cell? ⟨M, 2, none⟩ = some v ∧ w1.frozen? ⟨M, 2, none⟩ = false) ∧ QM (w1.setCell ⟨M, 2, none⟩ (.slice A L1.length c)) M (.slice A L1.length c) most next L1 ∧ KB (fun i => i = M) w (w1.setCell ⟨M, 2, none⟩ (.slice A L1.length c)) := by
  have h1 := h.past hb
  refine ⟨⟨h1.cells.1.2.2, h1.cells.2 2⟩, ⟨heap_setCell_same w1 M 2 _ _ _ h1.d, A, c, rfl, hc, hf, hr.kept (KB.set (S := fun i => i = M) 2 _ rfl) h1.np⟩, (KB.of_below (S := fun i => i = M) hb).trans (KB.set (S := fun i => i = M) 2 _ rfl) fun _ _ e => e⟩
/-- A row of the call's own, stored. -/
theorem QM.own {w w1 : World} {M B : Nat} {v v1 : Value} {most next : Int} {L L1 : List Tr} {n : Nat} (h : QM w M v most next L) (hb : Below w.heap.size w w1) (ho : w1.ownsRow B 61 3 v1 n (rowsV encT L1)) (hn : n = L1.length) :
    (w1.cell? ⟨M, 2, none⟩ = some v ∧ w1.frozen? ⟨M, 2, none⟩ = false) ∧ QM (w1.setCell ⟨M, 2, none⟩ v1) M v1 most next L1 ∧ KB (fun i => i = M) w (w1.setCell ⟨M, 2, none⟩ v1) := by
  subst hn
  rcases ho.2 with ⟨rfl, h0⟩ | ⟨g, cap, cur, rfl, hB, hh, h1, h2, h3, h4⟩
  · obtain rfl : L1 = [] := List.eq_nil_of_length_eq_zero h0
    exact h.renew hb (L1 := []) (Nat.le_refl _) (.inl ⟨rfl, rfl⟩) (fun e => absurd rfl e)
  · exact h.renew hb h1 (.inr ⟨g, rfl⟩) (TR.of_own ho rfl)
/-- Where a point comes in. -/
def insL (p : Tr) : List Tr → List Tr
  | [] => [p]
  | x :: l => if lessB p.1 p.2.1 x.1 x.2.1 = true then p :: x :: l else x :: insL p l
theorem insL_at (p : Tr) : ∀ (L : List Tr), ∃ r, r ≤ L.length ∧ insL p L = L.take r ++ p :: L.drop r ∧ (∀ i, i < r → lessB p.1 p.2.1 (Tz L i).1 (Tz L i).2.1 = false) ∧ (r < L.length → lessB p.1 p.2.1 (Tz L r).1 (Tz L r).2.1 = true)
  | [] => ⟨0, Nat.le_refl _, rfl, fun i hi => by omega, fun h => by simp at h⟩
  | x :: l => by
    by_cases hx : lessB p.1 p.2.1 x.1 x.2.1 = true
    · exact ⟨0, Nat.zero_le _, by rw [insL, if_pos hx]; rfl, fun i hi => by omega, fun _ => hx⟩
    · obtain ⟨r, h1, h2, h3, h4⟩ := insL_at p l
      refine ⟨r + 1, by simpa using h1, by rw [insL, if_neg hx, h2]; rfl, fun i hi => ?_, fun h => h4 (by simpa using h)⟩
      cases i with
      | zero => simpa [Tz] using hx
      | succ i => exact h3 i (by omega)
theorem insL_len (p : Tr) : ∀ L, (insL p L).length = L.length + 1
  | [] => rfl
  | x :: l => by
    unfold insL
    split
    · rfl
    · simp [insL_len p l]
theorem takeT_one (L : List Tr) (j : Nat) (h : j < L.length) : L.take (j + 1) = L.take j ++ [Tz L j] := by
  rw [List.take_succ_eq_append_getElem h]
  unfold Tz
  rw [List.getElem?_eq_getElem h]
  rfl
end Go.Proofs.Ytnkdbpbfapdfeaa
