/- The walk of alone. -/
import Derived.Test.YtoiekhjmfoodiaaDoorHj
import Derived.Test.YtoiekhjmfoodiaaDoorHe
import Derived.Test.YtoiekhjmfoodiaaDoorHf
import Derived.Test.YtoiekhjmfoodiaaDoorGp
import Derived.Test.YtoiekhjmfoodiaaDoorGy
import Derived.Laws.AppendOwnNone
namespace Go.Proofs.YtoiekhjmfoodiaaDoor
open Go.RowKit

/-- Something that is done to a row. -/
structure OP where
  k : Int
  x : Int
  n : Int
  c : CC
def eraseZ (l : List CC) (z1 z2 : Int) (b : CC) : List CC := eraseL l (max z1 0).toNat (max (min z2 (l.length : Int)) (max z1 0)).toNat b
/-- What it makes of a row. -/
def opRow (l : List CC) (o : OP) : List CC :=
  if o.k = 0 then putRow l o.x o.c else if o.k = 1 then markRow l o.x o.c.r else if o.k = 2 then eraseZ l o.x o.n (blankC o.c.bk o.c.bn)
  else if o.k = 3 then insRow l o.x o.n (blankC o.c.bk o.c.bn) else if o.k = 4 then delRow l o.x o.n (blankC o.c.bk o.c.bn) else if o.k = 5 then closeRow l else mendL l
def encO (o : OP) : List Value := [.int .i64 o.k, .int .i64 o.x, .int .i64 o.n, .int .i32 o.c.r, .int .i64 o.c.fk, .int .i64 o.c.fn, .int .i64 o.c.bk, .int .i64 o.c.bn, .int .i64 o.c.fl]
set_option maxRecDepth 100000 in
set_option maxHeartbeats 4000000 in
theorem alone_0 (A : Option Addr) (l : List CC) (n c : Nat) (o : OP) (hn : n = l.length) (hl : n ≤ 1000) (w : World) (hT : WT w) (h : RC w w.heap.size A l) :
    Calls Tryd.prog 19 #[.slice A n c, .agg #[.int .i64 0, .int .i64 o.x, .int .i64 o.n, .int .i32 o.c.r, .int .i64 o.c.fk, .int .i64 o.c.fn, .int .i64 o.c.bk, .int .i64 o.c.bn, .int .i64 o.c.fl]] w fun e w' => ∃ v, e = .returned v ∧ OC w.heap.size w' v (putRow l o.x o.c) ∧ Below w.heap.size w w' := by
  have HC : Hid (∀ W, Below w.heap.size w W → Calls Tryd.prog 22 #[.slice A n c, .int .i64 o.x, .int .i32 o.c.r, .agg #[.int .i64 o.c.fk, .int .i64 o.c.fn, .int .i64 o.c.bk, .int .i64 o.c.bn, .int .i64 o.c.fl]] W fun e w' => ∃ v, e = .returned v ∧ OC w.heap.size w' v (putRow l o.x o.c) ∧ Below w.heap.size w w') := Lib.hid fun W hW =>
    (put_any A l n c o.x o.c hn hl W (hT.below hW) (h.past hW)).mono fun e w' ⟨v, he, ho, hb⟩ => ⟨v, he, ho.lower hW.size, bel0 hW hb⟩
  clear h hn hl hT
  generalize putRow l o.x o.c = L at *
  go_enter Tryd.func19, Tryd.ntmps19
  go_wp2_with (go_at_call 22; (with_reducible refine (HC.out _ (belA (belA (Below.refl _ _) _) _)).mono ?_); rintro e w1 ⟨v, rfl, ho, hb⟩; have HO := Lib.hid ho; have HB := Lib.hid hb; clear ho hb)
  go_ret
  exact ⟨_, rfl, HO.out, HB.out⟩
set_option maxRecDepth 100000 in
set_option maxHeartbeats 4000000 in
theorem alone_1 (A : Option Addr) (l : List CC) (n c : Nat) (o : OP) (hn : n = l.length) (hl : n ≤ 1000) (w : World) (hs : ∀ x, x < l.length → (Ac (mendL l) x).m.size ≤ 4611686018427387904) (hT : WT w) (h : RC w w.heap.size A l) :
    Calls Tryd.prog 19 #[.slice A n c, .agg #[.int .i64 1, .int .i64 o.x, .int .i64 o.n, .int .i32 o.c.r, .int .i64 o.c.fk, .int .i64 o.c.fn, .int .i64 o.c.bk, .int .i64 o.c.bn, .int .i64 o.c.fl]] w fun e w' => ∃ v, e = .returned v ∧ OC w.heap.size w' v (markRow l o.x o.c.r) ∧ Below w.heap.size w w' := by
  have HC : Hid (∀ W, Below w.heap.size w W → Calls Tryd.prog 36 #[.slice A n c, .int .i64 o.x, .int .i32 o.c.r] W fun e w' => ∃ v, e = .returned v ∧ OC w.heap.size w' v (markRow l o.x o.c.r) ∧ Below w.heap.size w w') := Lib.hid fun W hW =>
    (mark_any A l n c o.x o.c.r hn hl hs W (hT.below hW) (h.past hW)).mono fun e w' ⟨v, he, ho, hb⟩ => ⟨v, he, ho.lower hW.size, bel0 hW hb⟩
  clear h hn hl hT hs
  generalize markRow l o.x o.c.r = L at *
  go_enter Tryd.func19, Tryd.ntmps19
  go_wp2_with (go_at_call 36; (with_reducible refine (HC.out _ (belA (belA (Below.refl _ _) _) _)).mono ?_); rintro e w1 ⟨v, rfl, ho, hb⟩; have HO := Lib.hid ho; have HB := Lib.hid hb; clear ho hb)
  go_ret
  exact ⟨_, rfl, HO.out, HB.out⟩
set_option maxRecDepth 100000 in
set_option maxHeartbeats 4000000 in
theorem alone_2 (A : Option Addr) (l : List CC) (n c : Nat) (o : OP) (hn : n = l.length) (hl : n ≤ 1000) (w : World) (h : RC w w.heap.size A l) :
    Calls Tryd.prog 19 #[.slice A n c, .agg #[.int .i64 2, .int .i64 o.x, .int .i64 o.n, .int .i32 o.c.r, .int .i64 o.c.fk, .int .i64 o.c.fn, .int .i64 o.c.bk, .int .i64 o.c.bn, .int .i64 o.c.fl]] w fun e w' => ∃ v, e = .returned v ∧ OC w.heap.size w' v (eraseZ l o.x o.n (blankC o.c.bk o.c.bn)) ∧ Below w.heap.size w w' := by
  have HC : Hid (∀ W, Below w.heap.size w W → Calls Tryd.prog 23 #[.slice A n c, .int .i64 o.x, .int .i64 o.n, .agg #[.int .i64 o.c.bk, .int .i64 o.c.bn]] W fun e w' => ∃ v, e = .returned v ∧ OC w.heap.size w' v (eraseZ l o.x o.n (blankC o.c.bk o.c.bn)) ∧ Below w.heap.size w w') := Lib.hid fun W hW =>
    (erase_any A l n c (max o.x 0).toNat (max (min o.n (l.length : Int)) (max o.x 0)).toNat o.x o.n o.c.bk o.c.bn hn hl (by omega) (by omega) W (h.past hW)).mono fun e w' ⟨v, he, ho, hb⟩ => ⟨v, he, ho.lower hW.size, bel0 hW hb⟩
  clear h hn hl
  generalize eraseZ l o.x o.n (blankC o.c.bk o.c.bn) = L at *
  go_enter Tryd.func19, Tryd.ntmps19
  go_wp2_with (go_at_call 23; (with_reducible refine (HC.out _ (belA (belA (Below.refl _ _) _) _)).mono ?_); rintro e w1 ⟨v, rfl, ho, hb⟩; have HO := Lib.hid ho; have HB := Lib.hid hb; clear ho hb)
  go_ret
  exact ⟨_, rfl, HO.out, HB.out⟩
set_option maxRecDepth 100000 in
set_option maxHeartbeats 4000000 in
theorem alone_3 (A : Option Addr) (l : List CC) (n c : Nat) (o : OP) (hn : n = l.length) (hl : n ≤ 1000) (w : World) (h : RC w w.heap.size A l) :
    Calls Tryd.prog 19 #[.slice A n c, .agg #[.int .i64 3, .int .i64 o.x, .int .i64 o.n, .int .i32 o.c.r, .int .i64 o.c.fk, .int .i64 o.c.fn, .int .i64 o.c.bk, .int .i64 o.c.bn, .int .i64 o.c.fl]] w fun e w' => ∃ v, e = .returned v ∧ OC w.heap.size w' v (insRow l o.x o.n (blankC o.c.bk o.c.bn)) ∧ Below w.heap.size w w' := by
  have HC : Hid (∀ W, Below w.heap.size w W → Calls Tryd.prog 37 #[.slice A n c, .int .i64 o.x, .int .i64 o.n, .agg #[.int .i64 o.c.bk, .int .i64 o.c.bn]] W fun e w' => ∃ v, e = .returned v ∧ OC w.heap.size w' v (insRow l o.x o.n (blankC o.c.bk o.c.bn)) ∧ Below w.heap.size w w') := Lib.hid fun W hW =>
    (insert_any A l n c o.x o.n o.c.bk o.c.bn hn hl W (h.past hW)).mono fun e w' ⟨v, he, ho, hb⟩ => ⟨v, he, ho.lower hW.size, bel0 hW hb⟩
  clear h hn hl
  generalize insRow l o.x o.n (blankC o.c.bk o.c.bn) = L at *
  go_enter Tryd.func19, Tryd.ntmps19
  go_wp2_with (go_at_call 37; (with_reducible refine (HC.out _ (belA (belA (Below.refl _ _) _) _)).mono ?_); rintro e w1 ⟨v, rfl, ho, hb⟩; have HO := Lib.hid ho; have HB := Lib.hid hb; clear ho hb)
  go_ret
  exact ⟨_, rfl, HO.out, HB.out⟩
set_option maxRecDepth 100000 in
set_option maxHeartbeats 4000000 in
theorem alone_4 (A : Option Addr) (l : List CC) (n c : Nat) (o : OP) (hn : n = l.length) (hl : n ≤ 1000) (w : World) (h : RC w w.heap.size A l) :
    Calls Tryd.prog 19 #[.slice A n c, .agg #[.int .i64 4, .int .i64 o.x, .int .i64 o.n, .int .i32 o.c.r, .int .i64 o.c.fk, .int .i64 o.c.fn, .int .i64 o.c.bk, .int .i64 o.c.bn, .int .i64 o.c.fl]] w fun e w' => ∃ v, e = .returned v ∧ OC w.heap.size w' v (delRow l o.x o.n (blankC o.c.bk o.c.bn)) ∧ Below w.heap.size w w' := by
  have HC : Hid (∀ W, Below w.heap.size w W → Calls Tryd.prog 38 #[.slice A n c, .int .i64 o.x, .int .i64 o.n, .agg #[.int .i64 o.c.bk, .int .i64 o.c.bn]] W fun e w' => ∃ v, e = .returned v ∧ OC w.heap.size w' v (delRow l o.x o.n (blankC o.c.bk o.c.bn)) ∧ Below w.heap.size w w') := Lib.hid fun W hW =>
    (delete_any A l n c o.x o.n o.c.bk o.c.bn hn hl W (h.past hW)).mono fun e w' ⟨v, he, ho, hb⟩ => ⟨v, he, ho.lower hW.size, bel0 hW hb⟩
  clear h hn hl
  generalize delRow l o.x o.n (blankC o.c.bk o.c.bn) = L at *
  go_enter Tryd.func19, Tryd.ntmps19
  go_wp2_with (go_at_call 38; (with_reducible refine (HC.out _ (belA (belA (Below.refl _ _) _) _)).mono ?_); rintro e w1 ⟨v, rfl, ho, hb⟩; have HO := Lib.hid ho; have HB := Lib.hid hb; clear ho hb)
  go_ret
  exact ⟨_, rfl, HO.out, HB.out⟩
set_option maxRecDepth 100000 in
set_option maxHeartbeats 4000000 in
theorem alone_5 (A : Option Addr) (l : List CC) (n c : Nat) (o : OP) (hn : n = l.length) (hl : n ≤ 1000) (w : World) (h : RC w w.heap.size A l) :
    Calls Tryd.prog 19 #[.slice A n c, .agg #[.int .i64 5, .int .i64 o.x, .int .i64 o.n, .int .i32 o.c.r, .int .i64 o.c.fk, .int .i64 o.c.fn, .int .i64 o.c.bk, .int .i64 o.c.bn, .int .i64 o.c.fl]] w fun e w' => ∃ v, e = .returned v ∧ OC w.heap.size w' v (closeRow l) ∧ Below w.heap.size w w' := by
  have HC : Hid (∀ W, Below w.heap.size w W → Calls Tryd.prog 39 #[.slice A n c] W fun e w' => ∃ v, e = .returned v ∧ OC w.heap.size w' v (closeRow l) ∧ Below w.heap.size w w') := Lib.hid fun W hW =>
    (close_any A l n c hn hl W (h.past hW)).mono fun e w' ⟨v, he, ho, hb⟩ => ⟨v, he, ho.lower hW.size, bel0 hW hb⟩
  clear h hn hl
  generalize closeRow l = L at *
  go_enter Tryd.func19, Tryd.ntmps19
  go_wp2_with (go_at_call 39; (with_reducible refine (HC.out _ (belA (belA (Below.refl _ _) _) _)).mono ?_); rintro e w1 ⟨v, rfl, ho, hb⟩; have HO := Lib.hid ho; have HB := Lib.hid hb; clear ho hb)
  go_ret
  exact ⟨_, rfl, HO.out, HB.out⟩
set_option maxRecDepth 100000 in
set_option maxHeartbeats 4000000 in
theorem alone_6 (A : Option Addr) (l : List CC) (n c : Nat) (o : OP) (h0 : (o.k == 0) = false) (h1 : (o.k == 1) = false) (h2 : (o.k == 2) = false) (h3 : (o.k == 3) = false) (h4 : (o.k == 4) = false) (h5 : (o.k == 5) = false) (hn : n = l.length) (hl : n ≤ 1000) (w : World) (h : RC w w.heap.size A l) :
    Calls Tryd.prog 19 #[.slice A n c, .agg #[.int .i64 o.k, .int .i64 o.x, .int .i64 o.n, .int .i32 o.c.r, .int .i64 o.c.fk, .int .i64 o.c.fn, .int .i64 o.c.bk, .int .i64 o.c.bn, .int .i64 o.c.fl]] w fun e w' => ∃ v, e = .returned v ∧ OC w.heap.size w' v (mendL l) ∧ Below w.heap.size w w' := by
  have HC : Hid (∀ W, Below w.heap.size w W → Calls Tryd.prog 12 #[.slice A n c] W fun e w' => ∃ v, e = .returned v ∧ OC w.heap.size w' v (mendL l) ∧ Below w.heap.size w w') := Lib.hid fun W hW =>
    (mend_any A l n c hn hl W (h.past hW)).mono fun e w' ⟨v, he, ho, hb⟩ => ⟨v, he, ho.lower hW.size, bel0 hW hb⟩
  clear h hn hl
  generalize mendL l = L at *
  go_enter Tryd.func19, Tryd.ntmps19
  go_wp2_with (go_at_call 12; (with_reducible refine (HC.out _ (belA (belA (Below.refl _ _) _) _)).mono ?_); rintro e w1 ⟨v, rfl, ho, hb⟩; have HO := Lib.hid ho; have HB := Lib.hid hb; clear ho hb)
  go_ret
  exact ⟨_, rfl, HO.out, HB.out⟩
theorem alone_any (A : Option Addr) (l : List CC) (n c : Nat) (o : OP) (hn : n = l.length) (hl : n ≤ 1000) (hs : ∀ x, x < l.length → (Ac (mendL l) x).m.size ≤ 4611686018427387904) (w : World) (hT : WT w) (h : RC w w.heap.size A l) :
    Calls Tryd.prog 19 #[.slice A n c, .agg #[.int .i64 o.k, .int .i64 o.x, .int .i64 o.n, .int .i32 o.c.r, .int .i64 o.c.fk, .int .i64 o.c.fn, .int .i64 o.c.bk, .int .i64 o.c.bn, .int .i64 o.c.fl]] w fun e w' => ∃ v, e = .returned v ∧ OC w.heap.size w' v (opRow l o) ∧ Below w.heap.size w w' := by
  unfold opRow
  by_cases e0 : o.k = 0
  · rw [if_pos e0, e0]
    exact alone_0 A l n c o hn hl w hT h
  rw [if_neg e0]
  by_cases e1 : o.k = 1
  · rw [if_pos e1, e1]
    exact alone_1 A l n c o hn hl w hs hT h
  rw [if_neg e1]
  by_cases e2 : o.k = 2
  · rw [if_pos e2, e2]
    exact alone_2 A l n c o hn hl w h
  rw [if_neg e2]
  by_cases e3 : o.k = 3
  · rw [if_pos e3, e3]
    exact alone_3 A l n c o hn hl w h
  rw [if_neg e3]
  by_cases e4 : o.k = 4
  · rw [if_pos e4, e4]
    exact alone_4 A l n c o hn hl w h
  rw [if_neg e4]
  by_cases e5 : o.k = 5
  · rw [if_pos e5, e5]
    exact alone_5 A l n c o hn hl w h
  rw [if_neg e5]
  exact alone_6 A l n c o (by simpa using e0) (by simpa using e1) (by simpa using e2) (by simpa using e3) (by simpa using e4) (by simpa using e5) hn hl w h
end Go.Proofs.YtoiekhjmfoodiaaDoor

namespace Go.Proofs.YtoiekhjmfoodiaaDoor
open Go.RowKit

/-- The nine cells of something that is done lie at an address. -/
def O9 (w : World) (b o : Nat) (x : OP) : Prop :=
  w.cell? ⟨b, o, none⟩ = some (.int .i64 x.k) ∧ w.cell? ⟨b, o + 1, none⟩ = some (.int .i64 x.x) ∧ w.cell? ⟨b, o + 2, none⟩ = some (.int .i64 x.n) ∧ w.cell? ⟨b, o + 3, none⟩ = some (.int .i32 x.c.r) ∧ w.cell? ⟨b, o + 4, none⟩ = some (.int .i64 x.c.fk) ∧ w.cell? ⟨b, o + 5, none⟩ = some (.int .i64 x.c.fn) ∧ w.cell? ⟨b, o + 6, none⟩ = some (.int .i64 x.c.bk) ∧ w.cell? ⟨b, o + 7, none⟩ = some (.int .i64 x.c.bn) ∧ w.cell? ⟨b, o + 8, none⟩ = some (.int .i64 x.c.fl)
theorem O9.past {w w' : World} {b o : Nat} {x : OP} (h : O9 w b o x) (hl : b < w.heap.size) (hb : Below w.heap.size w w') : O9 w' b o x := by
  have e : ∀ k, w'.cell? ⟨b, k, none⟩ = w.cell? ⟨b, k, none⟩ := fun k => hb.cell (p := ⟨b, k, none⟩) hl
  unfold O9
  rw [e, e, e, e, e, e, e, e, e]
  exact h
theorem putRow_len (l : List CC) (z : Int) (x : CC) : (putRow l z x).length = l.length := by
  unfold putRow
  split
  · rw [mendL_len]
    split
    · simp [mendL_len]
    · split <;> simp [mendL_len]
  · rw [mendL_len]
theorem opRow_len (l : List CC) (o : OP) : (opRow l o).length = l.length := by
  unfold opRow
  split
  · exact putRow_len _ _ _
  · split
    · unfold markRow
      split
      · rw [mendL_len, markL_len, mendL_len]
      · rw [mendL_len]
    · split
      · unfold eraseZ eraseL
        split
        · rw [mendL_len, blankK_len, mendL_len]
        · rw [mendL_len]
      · split
        · unfold insRow
          split
          · rw [mendL_len, blankK_len, movL_len _ _ _ _ (by rw [mendL_len]; omega) (by rw [mendL_len]; omega), mendL_len]
          · rw [mendL_len]
        · split
          · unfold delRow
            split
            · rw [mendL_len, blankK_len, movL_len _ _ _ _ (by rw [mendL_len]; omega) (by rw [mendL_len]; omega), mendL_len]
            · rw [mendL_len]
          · split
            · unfold closeRow
              split
              · rw [mendL_len, List.length_set, mendL_len]
              · rw [mendL_len]
            · rw [mendL_len]
def opZ : OP := ⟨0, 0, 0, CC.zero⟩
def Ao (l : List OP) (k : Nat) : OP := l[k]?.getD opZ
def RO (w : World) (A : Option Addr) (l : List OP) : Prop :=
  l ≠ [] → ∃ b off, A = some ⟨b, off, none⟩ ∧ b < w.heap.size ∧ ∀ k, k < l.length → O9 w b (off + k * 9) (Ao l k)
theorem RO.at {w : World} {A : Option Addr} {l : List OP} (h : RO w A l) (hne : l ≠ []) :
    ∃ b off, A = some ⟨b, off, none⟩ ∧ ∀ W, Below w.heap.size w W → ∀ k, k < l.length → O9 W b (off + k * 9) (Ao l k) := by
  obtain ⟨b, off, e, hl, hc⟩ := h hne
  exact ⟨b, off, e, fun W hb k hk => (hc k hk).past hl hb⟩
theorem setR {w : World} {g x : Nat} {M : List CC} (h : MC w g M) (hx : x < M.length) (r : Int) : ∃ M', M'.length = M.length ∧ MC (w.setCell ⟨g, x * 8, none⟩ (.int .i32 r)) g M' := by
  obtain ⟨cur, hc⟩ := h.row
  have e : ∀ o, o ≠ x * 8 → (w.setCell ⟨g, x * 8, none⟩ (.int .i32 r)).cell? ⟨g, o, none⟩ = w.cell? ⟨g, o, none⟩ := fun o ho =>
    World.cell?_setCell_other _ ⟨g, x * 8, none⟩ ⟨g, o, none⟩ _ (fun he => ho (congrArg Addr.off he).symm)
  refine ⟨M.set x { Ac M x with r := r }, by simp, ⟨_, heap_setCell_same w g _ cur _ _ hc⟩, fun k hk => ?_⟩
  have hk' : k < M.length := by simpa using hk
  obtain ⟨h0, h1, h2, h3, h4, h5, h6, h7⟩ := h.at' k hk'
  by_cases hkx : k = x
  · subst hkx
    rw [show Ac (M.set k { Ac M k with r := r }) k = { Ac M k with r := r } by unfold Ac; rw [List.getElem?_set_self hk']; rfl]
    exact ⟨World.cell?_setCell_same _ _ _ h0, (e _ (by omega)).trans h1, (e _ (by omega)).trans h2, (e _ (by omega)).trans h3, (e _ (by omega)).trans h4, (e _ (by omega)).trans h5, (e _ (by omega)).trans h6, (e _ (by omega)).trans h7⟩
  · rw [show Ac (M.set x { Ac M x with r := r }) k = Ac M k by unfold Ac; rw [List.getElem?_set_ne (fun h => hkx h.symm)]]
    exact ⟨(e _ (by omega)).trans h0, (e _ (by omega)).trans h1, (e _ (by omega)).trans h2, (e _ (by omega)).trans h3, (e _ (by omega)).trans h4, (e _ (by omega)).trans h5, (e _ (by omega)).trans h6, (e _ (by omega)).trans h7⟩
/-- What the inner loop keeps: the row that was made is one's own, and of so many cells. -/
def GotI (B : Nat) (A : Option Addr) (n : Nat) (w : World) : Prop := n ≠ 0 → ∃ g L, A = some ⟨g, 0, none⟩ ∧ B ≤ g ∧ MC w g L ∧ L.length = n
theorem GotI.of {B : Nat} {w : World} {v : Value} {L : List CC} (h : OC B w v L) : ∃ A c, v = .slice A L.length c ∧ GotI B A L.length w := by
  rcases h with ⟨rfl, A, c, rfl⟩ | ⟨g, c, rfl, h1, h2, h3⟩
  · exact ⟨A, c, rfl, fun h => absurd rfl h⟩
  · exact ⟨_, c, rfl, fun _ => ⟨g, L, rfl, h1, h3, rfl⟩⟩
set_option maxRecDepth 100000 in
set_option maxHeartbeats 4000000 in
theorem own_long (A Bd : Option Addr) (n c m c' : Nat) (h : 60 < n ∨ 20 < m) (w : World) (hT : WT w) : Calls Tryd.prog 7 #[.slice A n c, .slice Bd m c'] w fun e w' => e = .returned (.bool true) ∧ Below w.heap.size w w' := by
  have HA := Lib.hid (awake_any w hT)
  clear hT
  by_cases h1 : 60 < n
  · have hd : decide ((60 : Int) < (n : Int)) = true := decide_eq_true (by omega)
    have hd' : decide (60 < n) = true := decide_eq_true h1
    clear h
    go_enter Tryd.func7, Tryd.ntmps7
    go_wp2_with (go_at_call 8; (with_reducible refine (HA.out).mono ?_); rintro e w5 ⟨rfl, hb⟩; have HB5 := Lib.hid hb; clear hb)
    go_ret
    exact ⟨rfl, HB5.out⟩
  · have hd : decide ((60 : Int) < (n : Int)) = false := decide_eq_false (by omega)
    have hd' : decide (60 < n) = false := decide_eq_false h1
    have h2 : 20 < m := by omega
    have hdm : decide ((20 : Int) < (m : Int)) = true := decide_eq_true (by omega)
    have hdm' : decide (20 < m) = true := decide_eq_true h2
    clear h
    go_enter Tryd.func7, Tryd.ntmps7
    go_wp2_with (go_at_call 8; (with_reducible refine (HA.out).mono ?_); rintro e w5 ⟨rfl, hb⟩; have HB5 := Lib.hid hb; clear hb)
    go_ret
    exact ⟨rfl, HB5.out⟩
set_option maxRecDepth 100000 in
set_option maxHeartbeats 4000000 in
theorem own_some (ad : Addr) (Bd : Option Addr) (l : List CC) (os : List OP) (n c m c' : Nat) (hn : n = l.length) (hm : m = os.length) (hn6 : n ≤ 60) (hm2 : m ≤ 20) (hs : ∀ x, x < l.length → (Ac (mendL l) x).m.size ≤ 4611686018427387904) (w : World) (hT : WT w) (h : RC w w.heap.size (some ad) l) (ho : RO w Bd os) : Calls Tryd.prog 7 #[.slice (some ad) n c, .slice Bd m c'] w fun e w' => e = .returned (.bool true) ∧ Below w.heap.size w w' := by
  have HA : Hid (∀ W, Below w.heap.size w W → Calls Tryd.prog 8 #[] W fun e w' => e = .returned (.bool true) ∧ Below W.heap.size W w') := Lib.hid fun W hW => awake_any W (hT.below hW)
  have HAL : Hid (∀ (o : OP) W, Below w.heap.size w W → Calls Tryd.prog 19 #[.slice (some ad) n c, .agg #[.int .i64 o.k, .int .i64 o.x, .int .i64 o.n, .int .i32 o.c.r, .int .i64 o.c.fk, .int .i64 o.c.fn, .int .i64 o.c.bk, .int .i64 o.c.bn, .int .i64 o.c.fl]] W fun e w' => ∃ A' c2 nn, e = .returned (.slice A' nn c2) ∧ nn ≤ 1000 ∧ GotI W.heap.size A' nn w' ∧ Below W.heap.size W w') := Lib.hid fun o W hW =>
    (alone_any (some ad) l n c o hn (by omega) hs W (hT.below hW) (h.past hW)).mono fun e w' ⟨v, he, hv, hb⟩ => by
      obtain ⟨A', c2, rfl, hg⟩ := GotI.of hv
      exact ⟨A', c2, _, he, by rw [opRow_len]; omega, hg, hb⟩
  have HSM : Hid (∀ W A' c2, Below w.heap.size w W → RC W W.heap.size A' l → Calls Tryd.prog 11 #[.slice (some ad) n c, .slice A' n c2] W fun e w' => e = .returned (.bool true) ∧ Below W.heap.size W w') := Lib.hid fun W A' c2 hW hR => by
    have h1 := same7C_any (some ad) A' l l n n c c2 hn hn (by omega) W (h.past hW) hR
    rwa [sameC_self] at h1
  have HRO : Hid (os ≠ [] → ∃ b off, Bd = some ⟨b, off, none⟩ ∧ ∀ W, Below w.heap.size w W → ∀ k, k < os.length → O9 W b (off + k * 9) (Ao os k)) := Lib.hid ho.at
  have HML := Lib.hid hm
  have hd : decide ((60 : Int) < (n : Int)) = false := decide_eq_false (by omega)
  have hd' : decide (60 < n) = false := decide_eq_false (by omega)
  have hdm : decide ((20 : Int) < (m : Int)) = false := decide_eq_false (by omega)
  have hdm' : decide (20 < m) = false := decide_eq_false (by omega)
  have HOWN : Hid ((w.alloc (.cells #[] 44)).ownsRow w.heap.size 44 8 (.slice (some ⟨w.heap.size, 0, none⟩) 0 0) 0 []) := Lib.hid (World.ownsRow_made w #[] 0 (Nat.le_refl _) (by unfold maxLen; omega) rfl)
  obtain ⟨i0, hi0, hz0, hz1, hz2⟩ := info_parts infoCell
  have HNEW : Hid (∀ j u, (cellsC l)[j]? = some u → (w.alloc (.cells #[] 44)).cell? (ad.add j) = some u) := Lib.hid fun j u hj => by
    have hne2 : l ≠ [] := fun e => by rw [e] at hj; simp [cellsC] at hj
    obtain ⟨b, off, e, hlt, hc⟩ := (h.past (belA (Below.refl _ _) (.cells #[] 44))) hne2
    cases e
    exact RC.news hc j u hj
  have HONE := Lib.hid (cellsC_one l)
  have HLEN : Hid ((cellsC l).length = n * 8) := Lib.hid (by rw [cellsC_len, hn])
  have HEND : Hid (∀ w5 v, (w.alloc (.cells #[] 44)).grownBy w5 (some w.heap.size) → w5.ownsRow w.heap.size 44 8 v (0 + n) ([] ++ cellsC l) → Below w.heap.size w w5 ∧ ∃ A' c2, v = .slice A' n c2 ∧ RC w5 w5.heap.size A' l) := Lib.hid fun w5 v hg ho => by
    refine ⟨((Below.refl w.heap.size w).alloc (Nat.le_refl _) _).grown hg (by simp) (fun k e => by cases e; exact Nat.le_refl _), ?_⟩
    rw [Nat.zero_add] at ho
    obtain ⟨A', c2, e, hr⟩ := (OC.of_own ho hn).form
    exact ⟨A', c2, by rw [e, hn], hr⟩
  clear h ho hs hT hm hn
  generalize cellsC l = cs at *
  go_enter Tryd.func7, Tryd.ntmps7
  go_wp2_with (at_builtin; go_must (refine wpList_append_own _ rfl _ _ 22 rfl w.heap.size 44 i0 _ 8 72 Tryd.underlying22 hi0 hz0 hz1 hz2 rfl (by decide) (.slice (some ⟨w.heap.size, 0, none⟩) 0 0) 0 [] rfl HOWN.out ad n c cs rfl HLEN.out HNEW.out HONE.out (by unfold maxLen; omega) (by omega) (by simp) ?_; intro v5 w5 hown5 hgrow5 _; obtain ⟨hb5, A5, c5, rfl, hr5⟩ := HEND.out _ _ hgrow5 hown5; have HB5 := Lib.hid hb5; have HR5 := Lib.hid hr5; clear hown5 hgrow5 hb5 hr5))
  clear HOWN hd hd' hdm hdm' HEND HNEW HONE HLEN
  go_loopw [6, 7, 8] (fun i _ _ wr => ∃ j : Nat, j ≤ m ∧ i = .int .i64 j ∧ Hid (Below w5.heap.size w5 wr)) (fun i _ _ _ => m - (intOf i).toNat)
  case atStart => exact ⟨0, Nat.zero_le _, rfl, Lib.hid (Below.refl _ _)⟩
  case round =>
    obtain ⟨j, hj, rfl, HBR⟩ := hrel
    by_cases hlt : j < m
    · have hne : os ≠ [] := fun e => by have := HML.out; rw [e] at this; simp at this; omega
      obtain ⟨b, off, rfl, hat⟩ := HRO.out hne
      obtain ⟨o0, o1, o2, o3, o4, o5, o6, o7, o8⟩ := hat wr (bel0 HB5.out HBR.out) j (by rw [← HML.out]; exact hlt)
      have HALr := Lib.hid (HAL.out (Ao os j) wr (bel0 HB5.out HBR.out))
      have hjm : (j : Int) < m := by omega
      clear hat hne
      generalize Ao os j = o at *
      go_wp2_with (go_at_call 19; (with_reducible refine (HALr.out).mono ?_); rintro e w6 ⟨A6, c6, n6, rfl, h6, hg6, hb6⟩; have HG6 := Lib.hid hg6; have HB6 := Lib.hid hb6; clear hg6 hb6)
      clear o0 o1 o2 o3 o4 o5 o6 o7 o8 HALr
      generalize hwr0 : wr = wq at *
      clear hwr0
      go_loopw [8] (fun k wr => ∃ j2 : Nat, j2 ≤ n6 ∧ k = .int .i64 j2 ∧ Hid (Below wq.heap.size wq wr) ∧ Hid (GotI wq.heap.size A6 n6 wr)) (fun k _ => n6 - (intOf k).toNat)
      case atStart => exact ⟨0, Nat.zero_le _, rfl, HB6, HG6⟩
      case round =>
        obtain ⟨j2, hj2, rfl, HBK, HGK⟩ := hrel
        by_cases hlt2 : j2 < n6
        · obtain ⟨g, L, hA, hgB, hmc, hL⟩ := HGK.out (by omega)
          subst hA
          have hj2n : (j2 : Int) < n6 := by omega
          obtain ⟨r0, _, _, _, _, _, _, _⟩ := hmc.at' j2 (by omega)
          have hfr := hmc.free
          have hgl := hmc.lt
          have HST : Hid (∀ r, Below wq.heap.size wq (wr.setCell ⟨g, j2 * 8, none⟩ (.int .i32 r)) ∧ GotI wq.heap.size (some ⟨g, 0, none⟩) n6 (wr.setCell ⟨g, j2 * 8, none⟩ (.int .i32 r))) := Lib.hid fun r => by
            refine ⟨HBK.out.setCell (p := ⟨g, j2 * 8, none⟩) hgB _, fun _ => ?_⟩
            obtain ⟨M', hM1, hM2⟩ := setR hmc (by omega : j2 < L.length) r
            exact ⟨g, M', rfl, hgB, hM2, by omega⟩
          clear hmc hL hgB
          generalize (Ac L j2).r = rr at *
          go_wp2
          go_roundw
          case rel => exact ⟨j2 + 1, hlt2, by go_num, Lib.hid (HST.out _).1, Lib.hid (HST.out _).2⟩
          case measure => simp [intOf]; omega
        · go_wp2
          go_roundw
          case rel => exact ⟨j + 1, hlt, by go_num, Lib.hid (bel0 HBR.out HBK.out)⟩
          case measure => simp [intOf]; omega
    · have HSMr := Lib.hid (HSM.out wr A5 c5 (bel0 HB5.out HBR.out) (HR5.out.past HBR.out))
      have HAr := Lib.hid (fun W (hb : Below wr.heap.size wr W) => HA.out W (bel0 HB5.out (bel0 HBR.out hb)))
      have HBW := Lib.hid (bel0 HB5.out HBR.out)
      go_wp2_with (first
        | (go_at_call 11; (with_reducible refine (HSMr.out).mono ?_); rintro e w7 ⟨rfl, hb7⟩; have HB7 := Lib.hid hb7; clear hb7)
        | (go_at_call 8; (with_reducible refine (HAr.out _ HB7.out).mono ?_); rintro e w8 ⟨rfl, hb8⟩; have HB8 := Lib.hid hb8; clear hb8))
      go_ret
      exact ⟨rfl, bel0 HBW.out (bel0 HB7.out HB8.out)⟩
set_option maxRecDepth 100000 in
set_option maxHeartbeats 4000000 in
theorem own_none (Bd : Option Addr) (l : List CC) (os : List OP) (n c m c' : Nat) (hn : n = l.length) (hm : m = os.length) (hn6 : n ≤ 60) (hm2 : m ≤ 20) (hs : ∀ x, x < l.length → (Ac (mendL l) x).m.size ≤ 4611686018427387904) (w : World) (hT : WT w) (h : RC w w.heap.size none l) (ho : RO w Bd os) (hc0 : c = 0) : Calls Tryd.prog 7 #[.slice none n c, .slice Bd m c'] w fun e w' => e = .returned (.bool true) ∧ Below w.heap.size w w' := by
  have HA : Hid (∀ W, Below w.heap.size w W → Calls Tryd.prog 8 #[] W fun e w' => e = .returned (.bool true) ∧ Below W.heap.size W w') := Lib.hid fun W hW => awake_any W (hT.below hW)
  have HAL : Hid (∀ (o : OP) W, Below w.heap.size w W → Calls Tryd.prog 19 #[.slice none n c, .agg #[.int .i64 o.k, .int .i64 o.x, .int .i64 o.n, .int .i32 o.c.r, .int .i64 o.c.fk, .int .i64 o.c.fn, .int .i64 o.c.bk, .int .i64 o.c.bn, .int .i64 o.c.fl]] W fun e w' => ∃ A' c2 nn, e = .returned (.slice A' nn c2) ∧ nn ≤ 1000 ∧ GotI W.heap.size A' nn w' ∧ Below W.heap.size W w') := Lib.hid fun o W hW =>
    (alone_any none l n c o hn (by omega) hs W (hT.below hW) (h.past hW)).mono fun e w' ⟨v, he, hv, hb⟩ => by
      obtain ⟨A', c2, rfl, hg⟩ := GotI.of hv
      exact ⟨A', c2, _, he, by rw [opRow_len]; omega, hg, hb⟩
  have HSM : Hid (∀ W A' c2, Below w.heap.size w W → RC W W.heap.size A' l → Calls Tryd.prog 11 #[.slice none n c, .slice A' n c2] W fun e w' => e = .returned (.bool true) ∧ Below W.heap.size W w') := Lib.hid fun W A' c2 hW hR => by
    have h1 := same7C_any none A' l l n n c c2 hn hn (by omega) W (h.past hW) hR
    rwa [sameC_self] at h1
  have HRO : Hid (os ≠ [] → ∃ b off, Bd = some ⟨b, off, none⟩ ∧ ∀ W, Below w.heap.size w W → ∀ k, k < os.length → O9 W b (off + k * 9) (Ao os k)) := Lib.hid ho.at
  have HML := Lib.hid hm
  have hd : decide ((60 : Int) < (n : Int)) = false := decide_eq_false (by omega)
  have hd' : decide (60 < n) = false := decide_eq_false (by omega)
  have hdm : decide ((20 : Int) < (m : Int)) = false := decide_eq_false (by omega)
  have hdm' : decide (20 < m) = false := decide_eq_false (by omega)
  have HOWN : Hid ((w.alloc (.cells #[] 44)).ownsRow w.heap.size 44 8 (.slice (some ⟨w.heap.size, 0, none⟩) 0 0) 0 []) := Lib.hid (World.ownsRow_made w #[] 0 (Nat.le_refl _) (by unfold maxLen; omega) rfl)
  obtain ⟨i0, hi0, hz0, hz1, hz2⟩ := info_parts infoCell
  have hl0 : l = [] := by
    rcases l with _ | ⟨x, l⟩
    · rfl
    · obtain ⟨b, off, e, _⟩ := h (by simp)
      cases e
  subst hl0
  obtain rfl : n = 0 := hn
  subst hc0
  have HB5 := Lib.hid (belA (Below.refl w.heap.size w) (.cells #[] 44))
  have HR5 : Hid (RC (w.alloc (.cells #[] 44)) (w.alloc (.cells #[] 44)).heap.size (some ⟨w.heap.size, 0, none⟩) []) := Lib.hid (fun h => absurd rfl h)
  clear h ho hs hT hm
  go_enter Tryd.func7, Tryd.ntmps7
  go_wp2_with (at_builtin; go_must (refine wpList_append_own_none rfl _ _ 22 rfl w.heap.size 44 i0 8 Tryd.underlying22 hi0 (.slice (some ⟨w.heap.size, 0, none⟩) 0 0) 0 [] rfl HOWN.out rfl ?_))
  clear HOWN hd hd' hdm hdm'
  generalize hW5 : w.alloc (.cells #[] 44) = w5 at *
  clear hW5
  generalize hA5 : (some ⟨w.heap.size, 0, none⟩ : Option Addr) = A5 at *
  clear hA5
  go_loopw [6, 7, 8] (fun i _ _ wr => ∃ j : Nat, j ≤ m ∧ i = .int .i64 j ∧ Hid (Below w5.heap.size w5 wr)) (fun i _ _ _ => m - (intOf i).toNat)
  case atStart => exact ⟨0, Nat.zero_le _, rfl, Lib.hid (Below.refl _ _)⟩
  case round =>
    obtain ⟨j, hj, rfl, HBR⟩ := hrel
    by_cases hlt : j < m
    · have hne : os ≠ [] := fun e => by have := HML.out; rw [e] at this; simp at this; omega
      obtain ⟨b, off, rfl, hat⟩ := HRO.out hne
      obtain ⟨o0, o1, o2, o3, o4, o5, o6, o7, o8⟩ := hat wr (bel0 HB5.out HBR.out) j (by rw [← HML.out]; exact hlt)
      have HALr := Lib.hid (HAL.out (Ao os j) wr (bel0 HB5.out HBR.out))
      have hjm : (j : Int) < m := by omega
      clear hat hne
      generalize Ao os j = o at *
      go_wp2_with (go_at_call 19; (with_reducible refine (HALr.out).mono ?_); rintro e w6 ⟨A6, c6, n6, rfl, h6, hg6, hb6⟩; have HG6 := Lib.hid hg6; have HB6 := Lib.hid hb6; clear hg6 hb6)
      clear o0 o1 o2 o3 o4 o5 o6 o7 o8 HALr
      generalize hwr0 : wr = wq at *
      clear hwr0
      go_loopw [8] (fun k wr => ∃ j2 : Nat, j2 ≤ n6 ∧ k = .int .i64 j2 ∧ Hid (Below wq.heap.size wq wr) ∧ Hid (GotI wq.heap.size A6 n6 wr)) (fun k _ => n6 - (intOf k).toNat)
      case atStart => exact ⟨0, Nat.zero_le _, rfl, HB6, HG6⟩
      case round =>
        obtain ⟨j2, hj2, rfl, HBK, HGK⟩ := hrel
        by_cases hlt2 : j2 < n6
        · obtain ⟨g, L, hA, hgB, hmc, hL⟩ := HGK.out (by omega)
          subst hA
          have hj2n : (j2 : Int) < n6 := by omega
          obtain ⟨r0, _, _, _, _, _, _, _⟩ := hmc.at' j2 (by omega)
          have hfr := hmc.free
          have hgl := hmc.lt
          have HST : Hid (∀ r, Below wq.heap.size wq (wr.setCell ⟨g, j2 * 8, none⟩ (.int .i32 r)) ∧ GotI wq.heap.size (some ⟨g, 0, none⟩) n6 (wr.setCell ⟨g, j2 * 8, none⟩ (.int .i32 r))) := Lib.hid fun r => by
            refine ⟨HBK.out.setCell (p := ⟨g, j2 * 8, none⟩) hgB _, fun _ => ?_⟩
            obtain ⟨M', hM1, hM2⟩ := setR hmc (by omega : j2 < L.length) r
            exact ⟨g, M', rfl, hgB, hM2, by omega⟩
          clear hmc hL hgB
          generalize (Ac L j2).r = rr at *
          go_wp2
          go_roundw
          case rel => exact ⟨j2 + 1, hlt2, by go_num, Lib.hid (HST.out _).1, Lib.hid (HST.out _).2⟩
          case measure => simp [intOf]; omega
        · go_wp2
          go_roundw
          case rel => exact ⟨j + 1, hlt, by go_num, Lib.hid (bel0 HBR.out HBK.out)⟩
          case measure => simp [intOf]; omega
    · have HSMr := Lib.hid (HSM.out wr A5 0 (bel0 HB5.out HBR.out) (HR5.out.past HBR.out))
      have HAr := Lib.hid (fun W (hb : Below wr.heap.size wr W) => HA.out W (bel0 HB5.out (bel0 HBR.out hb)))
      have HBW := Lib.hid (bel0 HB5.out HBR.out)
      go_wp2_with (first
        | (go_at_call 11; (with_reducible refine (HSMr.out).mono ?_); rintro e w7 ⟨rfl, hb7⟩; have HB7 := Lib.hid hb7; clear hb7)
        | (go_at_call 8; (with_reducible refine (HAr.out _ HB7.out).mono ?_); rintro e w8 ⟨rfl, hb8⟩; have HB8 := Lib.hid hb8; clear hb8))
      go_ret
      exact ⟨rfl, bel0 HBW.out (bel0 HB7.out HB8.out)⟩
theorem own_law (A Bd : Option Addr) (l : List CC) (os : List OP) (n c m c' : Nat) (hn : n = l.length) (hm : m = os.length) (hs : ∀ x, x < l.length → (Ac (mendL l) x).m.size ≤ 4611686018427387904) (w : World) (hT : WT w) (h : RC w w.heap.size A l) (ho : RO w Bd os) (hc0 : A = none → c = 0) : Calls Tryd.prog 7 #[.slice A n c, .slice Bd m c'] w fun e w' => e = .returned (.bool true) ∧ Below w.heap.size w w' := by
  by_cases h1 : 60 < n ∨ 20 < m
  · exact own_long A Bd n c m c' h1 w hT
  · cases A with
    | none => exact own_none Bd l os n c m c' hn hm (by omega) (by omega) hs w hT h ho (hc0 rfl)
    | some ad => exact own_some ad Bd l os n c m c' hn hm (by omega) (by omega) hs w hT h ho
end Go.Proofs.YtoiekhjmfoodiaaDoor
