/- Cells, plain; cells held against each other; rows of cells in memory. -/
import Derived.Test.YtfjgfmeanehpmaaKa
import Derived.Laws.StructEq
namespace Go.Proofs.Ytfjgfmeanehpmaa
open Go.RowKit

/-- A cell: its scalar, its marks, which half, its colors and flags. -/
structure CC where
  r : Int
  m : ByteArray
  h : Int
  fk : Int
  fn : Int
  bk : Int
  bn : Int
  fl : Int
def CC.zero : CC := ⟨0, ⟨#[]⟩, 0, 0, 0, 0, 0, 0⟩
def encC (x : CC) : List Value := [.int .i32 x.r, .string x.m, .int .i64 x.h, .int .i64 x.fk, .int .i64 x.fn, .int .i64 x.bk, .int .i64 x.bn, .int .i64 x.fl]
def eqA (x y : CC) : Bool := (x.fk == y.fk && x.fn == y.fn) && ((x.bk == y.bk && x.bn == y.bn) && x.fl == y.fl)
def eqC (x y : CC) : Bool := x.r == y.r && (x.m.toList == y.m.toList && (x.h == y.h && eqA x y))
theorem bytes_eq {a b : ByteArray} (h : (a.toList == b.toList) = true) : a = b := by
  rw [ByteArray.toList_eq, ByteArray.toList_eq] at h
  have e := eq_of_beq h
  obtain ⟨⟨x⟩⟩ := a
  obtain ⟨⟨y⟩⟩ := b
  have e : x = y := e
  rw [e]
theorem eqC_eq {x y : CC} (h : eqC x y = true) : x = y := by
  cases x; cases y
  unfold eqC eqA at h
  simp only [Bool.and_eq_true] at h
  obtain ⟨h1, h2, h3, ⟨h4, h5⟩, ⟨h6, h7⟩, h8⟩ := h
  have h2 := bytes_eq h2
  simp only [beq_iff_eq] at h1 h3 h4 h5 h6 h7 h8
  subst h1; subst h2; subst h3; subst h4; subst h5; subst h6; subst h7; subst h8
  rfl
theorem eqC_self (x : CC) : eqC x x = true := by
  unfold eqC eqA
  simp
theorem eqIN (n : Nat) (w : World) (x y : Int) : (Op.equalIn (n + 1) 3 (.int .i64 x) (.int .i64 y)).run Try.prog w = .ok (x == y) w :=
  run_equalIn_int w n 3 .i64 .i64 x y Try.underlying3
theorem two_of' {α : Type} {l : List α} (h : l.length = 2) : ∃ a b, l = [a, b] := by
  match l, h with
  | [a, b], _ => exact ⟨a, b, rfl⟩
  | [], h => simp at h
  | [_], h => simp at h
  | _ :: _ :: _ :: _, h => simp at h
theorem three_of {α : Type} {l : List α} (h : l.length = 3) : ∃ a b c, l = [a, b, c] := by
  match l, h with
  | [a, b, c], _ => exact ⟨a, b, c, rfl⟩
  | [], h => simp at h
  | [_], h => simp at h
  | [_, _], h => simp at h
  | _ :: _ :: _ :: _ :: _, h => simp at h
theorem four_of {α : Type} {l : List α} (h : l.length = 4) : ∃ a b c d, l = [a, b, c, d] := by
  match l, h with
  | [a, b, c, d], _ => exact ⟨a, b, c, d, rfl⟩
  | [], h => simp at h
  | [_], h => simp at h
  | [_, _], h => simp at h
  | [_, _, _], h => simp at h
  | _ :: _ :: _ :: _ :: _ :: _, h => simp at h
theorem eqColorN (n : Nat) (w : World) (a b c d : Int) : (Op.equalIn (n + 2) 50 (.agg #[.int .i64 a, .int .i64 b]) (.agg #[.int .i64 c, .int .i64 d])).run Try.prog w = .ok (a == c && b == d) w := by
  rw [run_equalIn_struct w (n + 1) 50 _ _ (by kernel_rfl) (by kernel_rfl)]
  have e : (Try.prog.fieldsOf 50).toList.map (fun f => (f.name, f.type, f.offset)) = [("Kind", 3, 0), ("N", 3, 1)] := by kernel_rfl
  generalize (Try.prog.fieldsOf 50).toList = fs at e ⊢
  obtain ⟨f0, f1, rfl⟩ := two_of' (by simpa using congrArg List.length e)
  simp only [List.map_cons, List.map_nil, List.cons.injEq, Prod.mk.injEq, and_true] at e
  obtain ⟨⟨n0, t0, o0⟩, ⟨n1, t1, o1⟩⟩ := e
  by_cases h : a = c
  · by_cases h' : b = d
    · simp [Op.eqFields, n0, t0, o0, n1, t1, o1, part, eqIN, h, h']
    · simp [Op.eqFields, n0, t0, o0, n1, t1, o1, part, eqIN, h, h']
  · simp [Op.eqFields, n0, t0, o0, n1, t1, o1, part, eqIN, h]
theorem eqAttrN (n : Nat) (w : World) (x y : CC) : (Op.equalIn (n + 3) 52 (.agg #[.int .i64 x.fk, .int .i64 x.fn, .int .i64 x.bk, .int .i64 x.bn, .int .i64 x.fl]) (.agg #[.int .i64 y.fk, .int .i64 y.fn, .int .i64 y.bk, .int .i64 y.bn, .int .i64 y.fl])).run Try.prog w = .ok (eqA x y) w := by
  rw [run_equalIn_struct w (n + 2) 52 _ _ (by kernel_rfl) (by kernel_rfl)]
  have e : (Try.prog.fieldsOf 52).toList.map (fun f => (f.name, f.type, f.offset)) = [("Fore", 50, 0), ("Back", 50, 2), ("Flags", 3, 4)] := by kernel_rfl
  generalize (Try.prog.fieldsOf 52).toList = fs at e ⊢
  obtain ⟨f0, f1, f2, rfl⟩ := three_of (by simpa using congrArg List.length e)
  simp only [List.map_cons, List.map_nil, List.cons.injEq, Prod.mk.injEq, and_true] at e
  obtain ⟨⟨n0, t0, o0⟩, ⟨n1, t1, o1⟩, ⟨n2, t2, o2⟩⟩ := e
  have hc : ∀ (W : World) (a b c d : Int), (Op.equalIn (n + 2) 50 (.agg #[.int .i64 a, .int .i64 b]) (.agg #[.int .i64 c, .int .i64 d])).run Try.prog W = .ok (a == c && b == d) W := fun W a b c d => eqColorN n W a b c d
  have hi : ∀ (W : World) (x y : Int), (Op.equalIn (n + 2) 3 (.int .i64 x) (.int .i64 y)).run Try.prog W = .ok (x == y) W := fun W x y => eqIN (n + 1) W x y
  unfold eqA
  generalize hp : (x.fk == y.fk && x.fn == y.fn) = p
  generalize hq : (x.bk == y.bk && x.bn == y.bn) = q
  generalize hr : (x.fl == y.fl) = r
  cases p <;> cases q <;> cases r <;> simp [Op.eqFields, n0, t0, o0, n1, t1, o1, n2, t2, o2, part, hc, hi, hp, hq, hr]
theorem eqCell (w : World) (x y : CC) : (Op.equalIn 10000 54 (.agg #[.int .i32 x.r, .string x.m, .int .i64 x.h, .int .i64 x.fk, .int .i64 x.fn, .int .i64 x.bk, .int .i64 x.bn, .int .i64 x.fl]) (.agg #[.int .i32 y.r, .string y.m, .int .i64 y.h, .int .i64 y.fk, .int .i64 y.fn, .int .i64 y.bk, .int .i64 y.bn, .int .i64 y.fl])).run Try.prog w = .ok (eqC x y) w := by
  rw [run_equalIn_struct w 9999 54 _ _ (by kernel_rfl) (by kernel_rfl)]
  have e : (Try.prog.fieldsOf 54).toList.map (fun f => (f.name, f.type, f.offset)) = [("R", 21, 0), ("More", 9, 1), ("Half", 3, 2), ("Attr", 52, 3)] := by kernel_rfl
  generalize (Try.prog.fieldsOf 54).toList = fs at e ⊢
  obtain ⟨f0, f1, f2, f3, rfl⟩ := four_of (by simpa using congrArg List.length e)
  simp only [List.map_cons, List.map_nil, List.cons.injEq, Prod.mk.injEq, and_true] at e
  obtain ⟨⟨n0, t0, o0⟩, ⟨n1, t1, o1⟩, ⟨n2, t2, o2⟩, ⟨n3, t3, o3⟩⟩ := e
  have ha : ∀ (W : World), (Op.equalIn 9999 52 (.agg #[.int .i64 x.fk, .int .i64 x.fn, .int .i64 x.bk, .int .i64 x.bn, .int .i64 x.fl]) (.agg #[.int .i64 y.fk, .int .i64 y.fn, .int .i64 y.bk, .int .i64 y.bn, .int .i64 y.fl])).run Try.prog W = .ok (eqA x y) W := fun W => eqAttrN 9996 W x y
  have hi : ∀ (W : World) (x y : Int), (Op.equalIn 9999 3 (.int .i64 x) (.int .i64 y)).run Try.prog W = .ok (x == y) W := fun W x y => eqIN 9998 W x y
  have hi32 : ∀ (W : World) (x y : Int), (Op.equalIn 9999 21 (.int .i32 x) (.int .i32 y)).run Try.prog W = .ok (x == y) W := fun W x y => run_equalIn_int W 9998 21 .i32 .i32 x y Try.underlying21
  have hs : ∀ (W : World) (s t : ByteArray), (Op.equalIn 9999 9 (.string s) (.string t)).run Try.prog W = .ok (s.toList == t.toList) W := fun W s t => run_equalIn_string (w := W) 9998 9 s t Try.underlying9
  unfold eqC
  generalize hp : (x.r == y.r) = p
  generalize hq : (x.m.toList == y.m.toList) = q
  generalize hr : (x.h == y.h) = r
  generalize eqA x y = s at ha ⊢
  cases p <;> cases q <;> cases r <;> cases s <;> simp [Op.eqFields, n0, t0, o0, n1, t1, o1, n2, t2, o2, n3, t3, o3, part, ha, hi, hi32, hs, hp, hq, hr]
theorem Cell_guard : Try.prog.eqGuardType Try.prog.depth 54 = false := by kernel_rfl

def Ac (l : List CC) (k : Nat) : CC := l[k]?.getD CC.zero
/-- The eight cells of a cell lie at an address. -/
def C8 (w : World) (b o : Nat) (x : CC) : Prop :=
  w.cell? ⟨b, o, none⟩ = some (.int .i32 x.r) ∧ w.cell? ⟨b, o + 1, none⟩ = some (.string x.m) ∧ w.cell? ⟨b, o + 2, none⟩ = some (.int .i64 x.h) ∧ w.cell? ⟨b, o + 3, none⟩ = some (.int .i64 x.fk) ∧ w.cell? ⟨b, o + 4, none⟩ = some (.int .i64 x.fn) ∧ w.cell? ⟨b, o + 5, none⟩ = some (.int .i64 x.bk) ∧ w.cell? ⟨b, o + 6, none⟩ = some (.int .i64 x.bn) ∧ w.cell? ⟨b, o + 7, none⟩ = some (.int .i64 x.fl)
theorem C8.past {w w' : World} {b o : Nat} {x : CC} (h : C8 w b o x) (hl : b < w.heap.size) (hb : Below w.heap.size w w') : C8 w' b o x := by
  have e : ∀ k, w'.cell? ⟨b, k, none⟩ = w.cell? ⟨b, k, none⟩ := fun k => hb.cell (p := ⟨b, k, none⟩) hl
  unfold C8
  rw [e, e, e, e, e, e, e, e]
  exact h
/-- A slice of cells reads as a list. -/
def RC (w : World) (B : Nat) (A : Option Addr) (l : List CC) : Prop :=
  l ≠ [] → ∃ b off, A = some ⟨b, off, none⟩ ∧ b < B ∧ ∀ k, k < l.length → C8 w b (off + k * 8) (Ac l k)
theorem RC.past {w w' : World} {A : Option Addr} {l : List CC} (h : RC w w.heap.size A l) (hb : Below w.heap.size w w') : RC w' w'.heap.size A l := fun hne => by
  obtain ⟨b, off, e, hl, hc⟩ := h hne
  exact ⟨b, off, e, Nat.lt_of_lt_of_le hl hb.size, fun k hk => (hc k hk).past hl hb⟩
theorem RC.at {w : World} {A : Option Addr} {l : List CC} (h : RC w w.heap.size A l) (hne : l ≠ []) :
    ∃ b off, A = some ⟨b, off, none⟩ ∧ ∀ W, Below w.heap.size w W → b < W.heap.size ∧ ∀ k, k < l.length → C8 W b (off + k * 8) (Ac l k) := by
  obtain ⟨b, off, e, hl, hc⟩ := h hne
  exact ⟨b, off, e, fun W hb => ⟨Nat.lt_of_lt_of_le hl hb.size, fun k hk => (hc k hk).past hl hb⟩⟩
/-- Two rows are the same. -/
def sameC (l l' : List CC) : Bool := l.length == l'.length && (List.range l.length).all fun k => eqC (Ac l k) (Ac l' k)
theorem sameC_len {l l' : List CC} (h : l.length ≠ l'.length) : sameC l l' = false := by
  unfold sameC
  rw [show (l.length == l'.length) = false by simpa using h]
  rfl
theorem sameC_no {l l' : List CC} (k : Nat) (hk : k < l.length) (h : eqC (Ac l k) (Ac l' k) = false) : sameC l l' = false := by
  unfold sameC
  rw [Bool.and_eq_false_iff]
  right
  rw [List.all_eq_false]
  exact ⟨k, List.mem_range.2 hk, by rw [h]; simp⟩
theorem sameC_yes {l l' : List CC} (hl : l.length = l'.length) (h : ∀ k, k < l.length → eqC (Ac l k) (Ac l' k) = true) : sameC l l' = true := by
  unfold sameC
  rw [show (l.length == l'.length) = true by simpa using hl, Bool.true_and, List.all_eq_true]
  exact fun k hk => h k (List.mem_range.1 hk)
theorem sameC_self (l : List CC) : sameC l l = true := sameC_yes rfl fun _ _ => eqC_self _
end Go.Proofs.Ytfjgfmeanehpmaa
