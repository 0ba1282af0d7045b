/- The walk of alone. -/
import Derived.Test.YtoiekhjmfoodiaaDoorYu
import Derived.Test.YtoiekhjmfoodiaaDoorYg
import Derived.Test.YtoiekhjmfoodiaaDoorYi
import Derived.Test.YtoiekhjmfoodiaaDoorGp
namespace Go.Proofs.YtoiekhjmfoodiaaDoor
open Go.RowKit

/-- Something that is done to a row. -/
structure OP where
  k : Int
  x : Int
  n : Int
  c : CC
def eraseZ (l : List CC) (z1 z2 : Int) (b : CC) : List CC := eraseL l (max z1 0).toNat (max (min z2 (l.length : Int)) (max z1 0)).toNat b
/-- What it makes of a row. -/
def opRow (l : List CC) (o : OP) : List CC :=
  if o.k = 0 then putRow l o.x o.c else if o.k = 1 then markRow l o.x o.c.r else if o.k = 2 then eraseZ l o.x o.n (blankC o.c.bk o.c.bn)
  else if o.k = 3 then insRow l o.x o.n (blankC o.c.bk o.c.bn) else if o.k = 4 then delRow l o.x o.n (blankC o.c.bk o.c.bn) else if o.k = 5 then closeRow l else mendL l
def encO (o : OP) : List Value := [.int .i64 o.k, .int .i64 o.x, .int .i64 o.n, .int .i32 o.c.r, .int .i64 o.c.fk, .int .i64 o.c.fn, .int .i64 o.c.bk, .int .i64 o.c.bn, .int .i64 o.c.fl]
set_option maxRecDepth 100000 in
set_option maxHeartbeats 4000000 in
theorem alone_0 (A : Option Addr) (l : List CC) (n c : Nat) (o : OP) (hn : n = l.length) (hl : n ≤ 1000) (w : World) (hT : WT w) (h : RC w w.heap.size A l) :
    Calls Tryd.prog 19 #[.slice A n c, .agg #[.int .i64 0, .int .i64 o.x, .int .i64 o.n, .int .i32 o.c.r, .int .i64 o.c.fk, .int .i64 o.c.fn, .int .i64 o.c.bk, .int .i64 o.c.bn, .int .i64 o.c.fl]] w fun e w' => ∃ v, e = .returned v ∧ OC w.heap.size w' v (putRow l o.x o.c) ∧ Below w.heap.size w w' := by
  have HC : Hid (∀ W, Below w.heap.size w W → Calls Tryd.prog 22 #[.slice A n c, .int .i64 o.x, .int .i32 o.c.r, .agg #[.int .i64 o.c.fk, .int .i64 o.c.fn, .int .i64 o.c.bk, .int .i64 o.c.bn, .int .i64 o.c.fl]] W fun e w' => ∃ v, e = .returned v ∧ OC w.heap.size w' v (putRow l o.x o.c) ∧ Below w.heap.size w w') := Lib.hid fun W hW =>
    (put_any A l n c o.x o.c hn hl W (hT.below hW) (h.past hW)).mono fun e w' ⟨v, he, ho, hb⟩ => ⟨v, he, ho.lower hW.size, bel0 hW hb⟩
  clear h hn hl hT
  generalize putRow l o.x o.c = L at *
  go_enter Tryd.func19, Tryd.ntmps19
  go_wp2_with (go_at_call 22; (with_reducible refine (HC.out _ (belA (belA (Below.refl _ _) _) _)).mono ?_); rintro e w1 ⟨v, rfl, ho, hb⟩; have HO := Lib.hid ho; have HB := Lib.hid hb; clear ho hb)
  go_ret
  exact ⟨_, rfl, HO.out, HB.out⟩
set_option maxRecDepth 100000 in
set_option maxHeartbeats 4000000 in
theorem alone_1 (A : Option Addr) (l : List CC) (n c : Nat) (o : OP) (hn : n = l.length) (hl : n ≤ 1000) (w : World) (hs : ∀ x, x < l.length → (Ac (mendL l) x).m.size ≤ 4611686018427387904) (hT : WT w) (h : RC w w.heap.size A l) :
    Calls Tryd.prog 19 #[.slice A n c, .agg #[.int .i64 1, .int .i64 o.x, .int .i64 o.n, .int .i32 o.c.r, .int .i64 o.c.fk, .int .i64 o.c.fn, .int .i64 o.c.bk, .int .i64 o.c.bn, .int .i64 o.c.fl]] w fun e w' => ∃ v, e = .returned v ∧ OC w.heap.size w' v (markRow l o.x o.c.r) ∧ Below w.heap.size w w' := by
  have HC : Hid (∀ W, Below w.heap.size w W → Calls Tryd.prog 36 #[.slice A n c, .int .i64 o.x, .int .i32 o.c.r] W fun e w' => ∃ v, e = .returned v ∧ OC w.heap.size w' v (markRow l o.x o.c.r) ∧ Below w.heap.size w w') := Lib.hid fun W hW =>
    (mark_any A l n c o.x o.c.r hn hl hs W (hT.below hW) (h.past hW)).mono fun e w' ⟨v, he, ho, hb⟩ => ⟨v, he, ho.lower hW.size, bel0 hW hb⟩
  clear h hn hl hT hs
  generalize markRow l o.x o.c.r = L at *
  go_enter Tryd.func19, Tryd.ntmps19
  go_wp2_with (go_at_call 36; (with_reducible refine (HC.out _ (belA (belA (Below.refl _ _) _) _)).mono ?_); rintro e w1 ⟨v, rfl, ho, hb⟩; have HO := Lib.hid ho; have HB := Lib.hid hb; clear ho hb)
  go_ret
  exact ⟨_, rfl, HO.out, HB.out⟩
set_option maxRecDepth 100000 in
set_option maxHeartbeats 4000000 in
theorem alone_2 (A : Option Addr) (l : List CC) (n c : Nat) (o : OP) (hn : n = l.length) (hl : n ≤ 1000) (w : World) (h : RC w w.heap.size A l) :
    Calls Tryd.prog 19 #[.slice A n c, .agg #[.int .i64 2, .int .i64 o.x, .int .i64 o.n, .int .i32 o.c.r, .int .i64 o.c.fk, .int .i64 o.c.fn, .int .i64 o.c.bk, .int .i64 o.c.bn, .int .i64 o.c.fl]] w fun e w' => ∃ v, e = .returned v ∧ OC w.heap.size w' v (eraseZ l o.x o.n (blankC o.c.bk o.c.bn)) ∧ Below w.heap.size w w' := by
  have HC : Hid (∀ W, Below w.heap.size w W → Calls Tryd.prog 23 #[.slice A n c, .int .i64 o.x, .int .i64 o.n, .agg #[.int .i64 o.c.bk, .int .i64 o.c.bn]] W fun e w' => ∃ v, e = .returned v ∧ OC w.heap.size w' v (eraseZ l o.x o.n (blankC o.c.bk o.c.bn)) ∧ Below w.heap.size w w') := Lib.hid fun W hW =>
    (erase_any A l n c (max o.x 0).toNat (max (min o.n (l.length : Int)) (max o.x 0)).toNat o.x o.n o.c.bk o.c.bn hn hl (by omega) (by omega) W (h.past hW)).mono fun e w' ⟨v, he, ho, hb⟩ => ⟨v, he, ho.lower hW.size, bel0 hW hb⟩
  clear h hn hl
  generalize eraseZ l o.x o.n (blankC o.c.bk o.c.bn) = L at *
  go_enter Tryd.func19, Tryd.ntmps19
  go_wp2_with (go_at_call 23; (with_reducible refine (HC.out _ (belA (belA (Below.refl _ _) _) _)).mono ?_); rintro e w1 ⟨v, rfl, ho, hb⟩; have HO := Lib.hid ho; have HB := Lib.hid hb; clear ho hb)
  go_ret
  exact ⟨_, rfl, HO.out, HB.out⟩
set_option maxRecDepth 100000 in
set_option maxHeartbeats 4000000 in
theorem alone_3 (A : Option Addr) (l : List CC) (n c : Nat) (o : OP) (hn : n = l.length) (hl : n ≤ 1000) (w : World) (h : RC w w.heap.size A l) :
    Calls Tryd.prog 19 #[.slice A n c, .agg #[.int .i64 3, .int .i64 o.x, .int .i64 o.n, .int .i32 o.c.r, .int .i64 o.c.fk, .int .i64 o.c.fn, .int .i64 o.c.bk, .int .i64 o.c.bn, .int .i64 o.c.fl]] w fun e w' => ∃ v, e = .returned v ∧ OC w.heap.size w' v (insRow l o.x o.n (blankC o.c.bk o.c.bn)) ∧ Below w.heap.size w w' := by
  have HC : Hid (∀ W, Below w.heap.size w W → Calls Tryd.prog 37 #[.slice A n c, .int .i64 o.x, .int .i64 o.n, .agg #[.int .i64 o.c.bk, .int .i64 o.c.bn]] W fun e w' => ∃ v, e = .returned v ∧ OC w.heap.size w' v (insRow l o.x o.n (blankC o.c.bk o.c.bn)) ∧ Below w.heap.size w w') := Lib.hid fun W hW =>
    (insert_any A l n c o.x o.n o.c.bk o.c.bn hn hl W (h.past hW)).mono fun e w' ⟨v, he, ho, hb⟩ => ⟨v, he, ho.lower hW.size, bel0 hW hb⟩
  clear h hn hl
  generalize insRow l o.x o.n (blankC o.c.bk o.c.bn) = L at *
  go_enter Tryd.func19, Tryd.ntmps19
  go_wp2_with (go_at_call 37; (with_reducible refine (HC.out _ (belA (belA (Below.refl _ _) _) _)).mono ?_); rintro e w1 ⟨v, rfl, ho, hb⟩; have HO := Lib.hid ho; have HB := Lib.hid hb; clear ho hb)
  go_ret
  exact ⟨_, rfl, HO.out, HB.out⟩
set_option maxRecDepth 100000 in
set_option maxHeartbeats 4000000 in
theorem alone_4 (A : Option Addr) (l : List CC) (n c : Nat) (o : OP) (hn : n = l.length) (hl : n ≤ 1000) (w : World) (h : RC w w.heap.size A l) :
    Calls Tryd.prog 19 #[.slice A n c, .agg #[.int .i64 4, .int .i64 o.x, .int .i64 o.n, .int .i32 o.c.r, .int .i64 o.c.fk, .int .i64 o.c.fn, .int .i64 o.c.bk, .int .i64 o.c.bn, .int .i64 o.c.fl]] w fun e w' => ∃ v, e = .returned v ∧ OC w.heap.size w' v (delRow l o.x o.n (blankC o.c.bk o.c.bn)) ∧ Below w.heap.size w w' := by
  have HC : Hid (∀ W, Below w.heap.size w W → Calls Tryd.prog 38 #[.slice A n c, .int .i64 o.x, .int .i64 o.n, .agg #[.int .i64 o.c.bk, .int .i64 o.c.bn]] W fun e w' => ∃ v, e = .returned v ∧ OC w.heap.size w' v (delRow l o.x o.n (blankC o.c.bk o.c.bn)) ∧ Below w.heap.size w w') := Lib.hid fun W hW =>
    (delete_any A l n c o.x o.n o.c.bk o.c.bn hn hl W (h.past hW)).mono fun e w' ⟨v, he, ho, hb⟩ => ⟨v, he, ho.lower hW.size, bel0 hW hb⟩
  clear h hn hl
  generalize delRow l o.x o.n (blankC o.c.bk o.c.bn) = L at *
  go_enter Tryd.func19, Tryd.ntmps19
  go_wp2_with (go_at_call 38; (with_reducible refine (HC.out _ (belA (belA (Below.refl _ _) _) _)).mono ?_); rintro e w1 ⟨v, rfl, ho, hb⟩; have HO := Lib.hid ho; have HB := Lib.hid hb; clear ho hb)
  go_ret
  exact ⟨_, rfl, HO.out, HB.out⟩
set_option maxRecDepth 100000 in
set_option maxHeartbeats 4000000 in
theorem alone_5 (A : Option Addr) (l : List CC) (n c : Nat) (o : OP) (hn : n = l.length) (hl : n ≤ 1000) (w : World) (h : RC w w.heap.size A l) :
    Calls Tryd.prog 19 #[.slice A n c, .agg #[.int .i64 5, .int .i64 o.x, .int .i64 o.n, .int .i32 o.c.r, .int .i64 o.c.fk, .int .i64 o.c.fn, .int .i64 o.c.bk, .int .i64 o.c.bn, .int .i64 o.c.fl]] w fun e w' => ∃ v, e = .returned v ∧ OC w.heap.size w' v (closeRow l) ∧ Below w.heap.size w w' := by
  have HC : Hid (∀ W, Below w.heap.size w W → Calls Tryd.prog 39 #[.slice A n c] W fun e w' => ∃ v, e = .returned v ∧ OC w.heap.size w' v (closeRow l) ∧ Below w.heap.size w w') := Lib.hid fun W hW =>
    (close_any A l n c hn hl W (h.past hW)).mono fun e w' ⟨v, he, ho, hb⟩ => ⟨v, he, ho.lower hW.size, bel0 hW hb⟩
  clear h hn hl
  generalize closeRow l = L at *
  go_enter Tryd.func19, Tryd.ntmps19
  go_wp2_with (go_at_call 39; (with_reducible refine (HC.out _ (belA (belA (Below.refl _ _) _) _)).mono ?_); rintro e w1 ⟨v, rfl, ho, hb⟩; have HO := Lib.hid ho; have HB := Lib.hid hb; clear ho hb)
  go_ret
  exact ⟨_, rfl, HO.out, HB.out⟩
set_option maxRecDepth 100000 in
set_option maxHeartbeats 4000000 in
theorem alone_6 (A : Option Addr) (l : List CC) (n c : Nat) (o : OP) (h0 : (o.k == 0) = false) (h1 : (o.k == 1) = false) (h2 : (o.k == 2) = false) (h3 : (o.k == 3) = false) (h4 : (o.k == 4) = false) (h5 : (o.k == 5) = false) (hn : n = l.length) (hl : n ≤ 1000) (w : World) (h : RC w w.heap.size A l) :
    Calls Tryd.prog 19 #[.slice A n c, .agg #[.int .i64 o.k, .int .i64 o.x, .int .i64 o.n, .int .i32 o.c.r, .int .i64 o.c.fk, .int .i64 o.c.fn, .int .i64 o.c.bk, .int .i64 o.c.bn, .int .i64 o.c.fl]] w fun e w' => ∃ v, e = .returned v ∧ OC w.heap.size w' v (mendL l) ∧ Below w.heap.size w w' := by
  have HC : Hid (∀ W, Below w.heap.size w W → Calls Tryd.prog 12 #[.slice A n c] W fun e w' => ∃ v, e = .returned v ∧ OC w.heap.size w' v (mendL l) ∧ Below w.heap.size w w') := Lib.hid fun W hW =>
    (mend_any A l n c hn hl W (h.past hW)).mono fun e w' ⟨v, he, ho, hb⟩ => ⟨v, he, ho.lower hW.size, bel0 hW hb⟩
  clear h hn hl
  generalize mendL l = L at *
  go_enter Tryd.func19, Tryd.ntmps19
  go_wp2_with (go_at_call 12; (with_reducible refine (HC.out _ (belA (belA (Below.refl _ _) _) _)).mono ?_); rintro e w1 ⟨v, rfl, ho, hb⟩; have HO := Lib.hid ho; have HB := Lib.hid hb; clear ho hb)
  go_ret
  exact ⟨_, rfl, HO.out, HB.out⟩
theorem alone_any (A : Option Addr) (l : List CC) (n c : Nat) (o : OP) (hn : n = l.length) (hl : n ≤ 1000) (hs : ∀ x, x < l.length → (Ac (mendL l) x).m.size ≤ 4611686018427387904) (w : World) (hT : WT w) (h : RC w w.heap.size A l) :
    Calls Tryd.prog 19 #[.slice A n c, .agg #[.int .i64 o.k, .int .i64 o.x, .int .i64 o.n, .int .i32 o.c.r, .int .i64 o.c.fk, .int .i64 o.c.fn, .int .i64 o.c.bk, .int .i64 o.c.bn, .int .i64 o.c.fl]] w fun e w' => ∃ v, e = .returned v ∧ OC w.heap.size w' v (opRow l o) ∧ Below w.heap.size w w' := by
  unfold opRow
  by_cases e0 : o.k = 0
  · rw [if_pos e0, e0]
    exact alone_0 A l n c o hn hl w hT h
  rw [if_neg e0]
  by_cases e1 : o.k = 1
  · rw [if_pos e1, e1]
    exact alone_1 A l n c o hn hl w hs hT h
  rw [if_neg e1]
  by_cases e2 : o.k = 2
  · rw [if_pos e2, e2]
    exact alone_2 A l n c o hn hl w h
  rw [if_neg e2]
  by_cases e3 : o.k = 3
  · rw [if_pos e3, e3]
    exact alone_3 A l n c o hn hl w h
  rw [if_neg e3]
  by_cases e4 : o.k = 4
  · rw [if_pos e4, e4]
    exact alone_4 A l n c o hn hl w h
  rw [if_neg e4]
  by_cases e5 : o.k = 5
  · rw [if_pos e5, e5]
    exact alone_5 A l n c o hn hl w h
  rw [if_neg e5]
  exact alone_6 A l n c o (by simpa using e0) (by simpa using e1) (by simpa using e2) (by simpa using e3) (by simpa using e4) (by simpa using e5) hn hl w h
end Go.Proofs.YtoiekhjmfoodiaaDoor
