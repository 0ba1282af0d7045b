/- Attributes held against each other; the walks of Change and of attr's awake. -/
import Derived.Test.YtlndmfbopopmmaaDoorBh
import Derived.Test.YtlndmfbopopmmaaDoorAm
import Derived.Test.YtlndmfbopopmmaaDoorPp
namespace Go.Proofs.YtlndmfbopopmmaaDoor
open Go.RowKit

theorem eqIN (n : Nat) (w : World) (x y : Int) : (Op.equalIn (n + 1) 3 (.int .i64 x) (.int .i64 y)).run Tryd.prog w = .ok (x == y) w :=
  run_equalIn_int w n 3 .i64 .i64 x y Tryd.underlying3
theorem eqColorN (n : Nat) (w : World) (a b c d : Int) : (Op.equalIn (n + 2) 23 (.agg #[.int .i64 a, .int .i64 b]) (.agg #[.int .i64 c, .int .i64 d])).run Tryd.prog w = .ok (a == c && b == d) w := by
  rw [run_equalIn_struct w (n + 1) 23 _ _ (by kernel_rfl) (by kernel_rfl)]
  have e : (Tryd.prog.fieldsOf 23).toList.map (fun f => (f.name, f.type, f.offset)) = [("Kind", 3, 0), ("N", 3, 1)] := by kernel_rfl
  generalize (Tryd.prog.fieldsOf 23).toList = fs at e ⊢
  obtain ⟨f0, f1, rfl⟩ := two_of (by simpa using congrArg List.length e)
  simp only [List.map_cons, List.map_nil, List.cons.injEq, Prod.mk.injEq, and_true] at e
  obtain ⟨⟨n0, t0, o0⟩, ⟨n1, t1, o1⟩⟩ := e
  by_cases h : a = c
  · by_cases h' : b = d
    · simp [Op.eqFields, n0, t0, o0, n1, t1, o1, part, eqIN, h, h']
    · simp [Op.eqFields, n0, t0, o0, n1, t1, o1, part, eqIN, h, h']
  · simp [Op.eqFields, n0, t0, o0, n1, t1, o1, part, eqIN, h]
theorem three_of {α : Type} {l : List α} (h : l.length = 3) : ∃ a b c, l = [a, b, c] := by
  match l, h with
  | [a, b, c], _ => exact ⟨a, b, c, rfl⟩
  | [], h => simp at h
  | [_], h => simp at h
  | [_, _], h => simp at h
  | _ :: _ :: _ :: _ :: _, h => simp at h
def eqAT (x y : AT) : Bool := (x.fk == y.fk && x.fn == y.fn) && ((x.bk == y.bk && x.bn == y.bn) && x.fl == y.fl)
theorem eqAttr (w : World) (a b c d f a' b' c' d' f' : Int) : (Op.equalIn 10000 25 (.agg #[.int .i64 a, .int .i64 b, .int .i64 c, .int .i64 d, .int .i64 f]) (.agg #[.int .i64 a', .int .i64 b', .int .i64 c', .int .i64 d', .int .i64 f'])).run Tryd.prog w = .ok (eqAT ⟨a, b, c, d, f⟩ ⟨a', b', c', d', f'⟩) w := by
  rw [run_equalIn_struct w 9999 25 _ _ (by kernel_rfl) (by kernel_rfl)]
  have e : (Tryd.prog.fieldsOf 25).toList.map (fun f => (f.name, f.type, f.offset)) = [("Fore", 23, 0), ("Back", 23, 2), ("Flags", 3, 4)] := by kernel_rfl
  generalize (Tryd.prog.fieldsOf 25).toList = fs at e ⊢
  obtain ⟨f0, f1, f2, rfl⟩ := three_of (by simpa using congrArg List.length e)
  simp only [List.map_cons, List.map_nil, List.cons.injEq, Prod.mk.injEq, and_true] at e
  obtain ⟨⟨n0, t0, o0⟩, ⟨n1, t1, o1⟩, ⟨n2, t2, o2⟩⟩ := e
  have hc : ∀ (W : World) (a b c d : Int), (Op.equalIn 9999 23 (.agg #[.int .i64 a, .int .i64 b]) (.agg #[.int .i64 c, .int .i64 d])).run Tryd.prog W = .ok (a == c && b == d) W := fun W a b c d => eqColorN 9997 W a b c d
  have hi : ∀ (W : World) (x y : Int), (Op.equalIn 9999 3 (.int .i64 x) (.int .i64 y)).run Tryd.prog W = .ok (x == y) W := fun W x y => eqIN 9998 W x y
  unfold eqAT
  generalize hp : (a == a' && b == b') = p
  generalize hq : (c == c' && d == d') = q
  generalize hr : (f == f') = r
  cases p <;> cases q <;> cases r <;> simp [Op.eqFields, n0, t0, o0, n1, t1, o1, n2, t2, o2, part, hc, hi, hp, hq, hr]
theorem eqAT_eq {x y : AT} (h : eqAT x y = true) : x = y := by
  cases x; cases y
  unfold eqAT at h
  simp only [Bool.and_eq_true, beq_iff_eq] at h
  obtain ⟨⟨h1, h2⟩, ⟨h3, h4⟩, h5⟩ := h
  subst h1; subst h2; subst h3; subst h4; subst h5
  rfl
theorem eqAT_self (x : AT) : eqAT x x = true := by
  unfold eqAT
  simp
theorem Attr_guard : Tryd.prog.eqGuardType Tryd.prog.depth 25 = false := by kernel_rfl
/-- What leads from one attribute to another. -/
def changeP (x y : AT) : ByteArray := if eqAT x y = true then ⟨#[]⟩ else if rightB y.fk y.fn y.bk y.bn y.fl = true then bsB (layT [] (numsP y)) else ⟨#[]⟩
theorem attrText_all (a : AT) (w : World) (hT : TT w) (hT10 : T10 w.heap.size w) : Calls Tryd.prog 15 #[a.val] w fun e w' => e = .returned (.string (if rightB a.fk a.fn a.bk a.bn a.fl = true then bsB (layT [] (numsP a)) else ⟨#[]⟩)) ∧ Below w.heap.size w w' := by
  cases h : rightB a.fk a.fn a.bk a.bn a.fl with
  | true => exact attrText_any a w h hT hT10
  | false => exact attrText_no a w h
theorem change_any (x y : AT) (w : World) (hT : TT w) (hT10 : T10 w.heap.size w) : Calls Tryd.prog 18 #[x.val, y.val] w fun e w' => e = .returned (.string (changeP x y)) ∧ Below w.heap.size w w' := by
  have HTX : Hid (∀ W, Below w.heap.size w W → Calls Tryd.prog 15 #[.agg #[.int .i64 y.fk, .int .i64 y.fn, .int .i64 y.bk, .int .i64 y.bn, .int .i64 y.fl]] W fun e w' => e = .returned (.string (if rightB y.fk y.fn y.bk y.bn y.fl = true then bsB (layT [] (numsP y)) else ⟨#[]⟩)) ∧ Below W.heap.size W w') := Lib.hid fun W hW => attrText_all y W (hT.below hW) (hT10.on hW hW.size)
  have hg := Attr_guard
  have hq := fun W => eqAttr W x.fk x.fn x.bk x.bn x.fl y.fk y.fn y.bk y.bn y.fl
  have he : eqAT ⟨x.fk, x.fn, x.bk, x.bn, x.fl⟩ ⟨y.fk, y.fn, y.bk, y.bn, y.fl⟩ = eqAT x y := rfl
  rw [he] at hq
  have HXY : Hid (eqAT x y = true → changeP x y = ⟨#[]⟩) := Lib.hid fun h => by unfold changeP; rw [if_pos h]
  have HNE : Hid (eqAT x y = false → changeP x y = (if rightB y.fk y.fn y.bk y.bn y.fl = true then bsB (layT [] (numsP y)) else ⟨#[]⟩)) := Lib.hid fun h => by unfold changeP; rw [if_neg (by rw [h]; decide)]
  clear he hT hT10
  show Calls Tryd.prog 18 #[.agg #[.int .i64 x.fk, .int .i64 x.fn, .int .i64 x.bk, .int .i64 x.bn, .int .i64 x.fl], .agg #[.int .i64 y.fk, .int .i64 y.fn, .int .i64 y.bk, .int .i64 y.bn, .int .i64 y.fl]] w _
  generalize changeP x y = CP at *
  generalize (if rightB y.fk y.fn y.bk y.bn y.fl = true then bsB (layT [] (numsP y)) else ⟨#[]⟩) = TX at *
  generalize eqAT x y = d at *
  cases d with
  | true =>
    have HE := Lib.hid (HXY.out rfl)
    rw [HE.out]
    clear HXY HNE
    go_enter Tryd.func18, Tryd.ntmps18
    go_wp2
    go_ret
    exact ⟨rfl, belA (belA (Below.refl _ _) _) _⟩
  | false =>
    have HE := Lib.hid (HNE.out rfl)
    rw [HE.out]
    clear HXY HNE
    go_enter Tryd.func18, Tryd.ntmps18
    go_wp2_with (go_at_call 15; (with_reducible refine (HTX.out _ (belA (belA (Below.refl _ _) _) _)).mono ?_); rintro e w3 ⟨rfl, hb3⟩)
    go_ret
    exact ⟨rfl, bel2 (Below.refl _ _) hb3⟩

theorem aw_turn : turnP AT.zero [[1], [38], [5], [200]] = ⟨1, 200, 0, 0, 1⟩ := by
  rw [turnP_cons]
  show turnP ⟨0, 0, 0, 0, 1⟩ [[38], [5], [200]] = _
  rw [turnP_cons]
  show turnP ⟨1, 200, 0, 0, 1⟩ [] = _
  rw [turnP]
theorem aw_text : bsB (layT [] (numsP ⟨1, 200, 0, 0, 1⟩)) = ⟨#[48, 59, 49, 59, 51, 56, 59, 53, 59, 50, 48, 48]⟩ := by decide +kernel

end Go.Proofs.YtlndmfbopopmmaaDoor
