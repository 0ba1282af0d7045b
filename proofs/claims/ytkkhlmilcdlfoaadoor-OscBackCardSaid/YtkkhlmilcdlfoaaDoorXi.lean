/- The walk of the document's Take. -/
import Derived.Test.YtkkhlmilcdlfoaaDoorXh
import Derived.Deep.RegionWith
namespace Go.Proofs.YtkkhlmilcdlfoaaDoor
open Go.RowKit

theorem step_append_own {P : Program} {ops : Array Oper} {o : Oper} {a : Act} {w : World} {K : Act → World → Prop} {Q : Exit → Act → World → Prop} {E : Prop}
    (hg : o.guard = none) (s x : Operand) (t : TypeId) (hop : o.op = Op.call { callee := Callee.builtin Builtin.append, args := #[s, x], argTypes := #[t, t] })
    (base : Nat) (e : TypeId) (i : TypeInfo) (z : Value) (size bytes : Nat) (h1 : P.underlying t = some (.slice e)) (h2 : P.info? e = some i) (h3 : i.zero = some z) (h4 : i.size = size) (h5 : i.bytes = bytes) (h6 : z.cells.size = size) (h7 : 0 < size)
    (v : Value) (k : Nat) (xs : List Value) (hs : a.eval s = v) (hown : w.ownsRow base e size v k xs) (ad : Addr) (m c : Nat) (news : List Value) (hx : a.eval x = .slice (some ad) m c) (hn : news.length = m * size)
    (hc : ∀ j u, news[j]? = some u → w.cell? (ad.add j) = some u) (h1c : ∀ u ∈ news, u.oneCell' = true) (b1 : k + m ≤ maxLen) (b2 : (k + m) * bytes ≤ 140737488355328) (b3 : base ≤ w.heap.size)
    (hK : ∀ v' w', w'.ownsRow base e size v' (k + m) (xs ++ news) → w.grownBy w' v.ownBlock → K (a.put o.dst v') w') :
    if Region.wanted o (yielded ops a.tmps) = true then Oper.wp P o a w K Q else E := by
  have hw : Region.wanted o (yielded ops a.tmps) = true := by simp [Region.wanted, hg]
  rw [if_pos hw]
  exact wp_append_own _ s x t hop base e i z size bytes h1 h2 h3 h4 h5 h6 h7 v k xs hs hown ad m c news hx hn hc h1c b1 b2 b3 (fun v' w' h h' _ => hK v' w' h h')

theorem grown_drew {w w' : World} {r : Option Nat} (h : w.drew.grownBy w' r) : w.grownBy w' r := ⟨h.os, h.tape, h.output, h.size, h.block⟩
theorem wrapS64 (x : Int) (h0 : 0 ≤ x) (h1 : x < 1000000) : IntKind.i64.wrap x = x := by rw [IntKind.wrap_i64]; omega
theorem wrapS8 (x : Int) (h0 : 0 ≤ x) (h1 : x < 256) : IntKind.u8.wrap x = x := by rw [IntKind.wrap_u8]; omega
def strV : Value → Nat
  | .string s => s.size
  | _ => 0
/-- How far the document's Take has come. -/
def TK (l rest D : List UInt8) (b : Bool) : Prop := D ++ takeL rest = takeL l ∧ (b && allL rest) = allL l ∧ D.length + rest.length ≤ 10000
theorem TK.one {l r D : List UInt8} {c : UInt8} {b : Bool} (h : TK l (c :: r) D b) (hp : pct1 (c :: r) = none) : TK l r (D ++ [c]) (b && (c != 37)) := by
  obtain ⟨h1, h2, h3⟩ := h
  rw [takeL_cons, hp] at h1
  rw [allL_cons, hp] at h2
  refine ⟨by rw [List.append_assoc]; exact h1, by rw [Bool.and_assoc]; exact h2, ?_⟩
  rw [List.length_append]
  simp only [List.length_cons, List.length_nil] at h3 ⊢
  omega
theorem TK.three {l r D : List UInt8} {a d x : UInt8} {b : Bool} (h : TK l (37 :: a :: d :: r) D b) (hp : hex2 a d = some x) : TK l r (D ++ [x]) b := by
  obtain ⟨h1, h2, h3⟩ := h
  rw [takeL_cons, pct1_37, hp] at h1
  rw [allL_cons, pct1_37, hp] at h2
  refine ⟨by rw [List.append_assoc]; exact h1, h2, ?_⟩
  rw [List.length_append]
  simp only [List.length_cons, List.length_nil] at h3 ⊢
  omega
theorem byteCells_snoc (D : List UInt8) (c : UInt8) : Lib.byteCells (D ++ [c]) = Lib.byteCells D ++ [.int .u8 c.toNat] := by simp [Lib.byteCells]
theorem tail_cut (c : UInt8) (r : List UInt8) : (bsB (c :: r)).extract 1 (bsB (c :: r)).size = bsB r := by rw [bs_extract, bsB_size, List.take_of_length_le (by simp)]; rfl
theorem tail_cut3 (c a d : UInt8) (r : List UInt8) : (bsB (c :: a :: d :: r)).extract 3 (bsB (c :: a :: d :: r)).size = bsB r := by rw [bs_extract, bsB_size, List.take_of_length_le (by simp)]; rfl
set_option maxRecDepth 100000 in
set_option maxHeartbeats 4000000 in
theorem refTake_any (l : List UInt8) (hl : l.length ≤ 10000) (w : World) : Calls Tryd.prog 48 #[.string (bsB l)] w fun e w' => e = .returned (.tuple #[.string (bsB (takeL l)), .bool (allL l)]) ∧ Below w.heap.size w w' := by
  obtain ⟨i0, hi0, hz0, hz1, hz2⟩ := info_parts byteInfo
  have HTK0 : Hid (TK l l [] true) := Lib.hid ⟨rfl, by simp, by simpa using hl⟩
  have HO0 : Hid (w.ownsRow w.heap.size 5 1 (.slice none 0 0) 0 (Lib.byteCells [])) := Lib.hid (World.ownsRow_nil _ _ _ _)
  obtain ⟨r1, hr1⟩ : ∃ r, r = bsB (takeL l) := ⟨_, rfl⟩
  obtain ⟨r2, hr2⟩ : ∃ r, r = allL l := ⟨_, rfl⟩
  rw [← hr1, ← hr2]
  replace hr1 := Lib.hid hr1
  replace hr2 := Lib.hid hr2
  clear hl
  go_enter Tryd.func48, Tryd.ntmps48
  go_wp2
  go_loopw [0, 4, 5] (fun q p v wr => ∃ (rest D : List UInt8) (b : Bool) (A : Option Addr) (c : Nat), q = .string (bsB rest) ∧ p = .bool b ∧ v = .slice A D.length c ∧ Hid (TK l rest D b) ∧ Hid (wr.ownsRow w.heap.size 5 1 (.slice A D.length c) D.length (Lib.byteCells D)) ∧ Hid (Below w.heap.size w wr)) (fun q _ _ _ => strV q)
  case atStart => exact ⟨l, [], true, none, 0, rfl, rfl, rfl, HTK0, HO0, Lib.hid (Below.refl _ _)⟩
  case round =>
    obtain ⟨rest, D, b, A, c, rfl, rfl, rfl, HTK, HO, HB⟩ := hrel
    cases rest with
    | nil =>
      have hsz : ((bsB []).size : Int) = 0 := by rw [bsB_size]; rfl
      have hcv := conv_own HO.out rfl
      have HR1 : Hid (bsB D = r1) := Lib.hid (by have := HTK.out.1; rw [takeL_nil, List.append_nil] at this; rw [hr1.out, this])
      have HR2 : Hid (b = r2) := Lib.hid (by have := HTK.out.2.1; rw [allL_nil, Bool.and_true] at this; rw [hr2.out, this])
      generalize D.length = dn at *
      generalize bsB D = t1 at *
      generalize bsB [] = t0 at *
      clear HTK HTK0 hr1 hr2
      go_wp2
      go_ret2
      exact ⟨by rw [HR1.out, HR2.out]; rfl, HB.out⟩
    | cons z r =>
      have hsz : ((bsB (z :: r)).size : Int) = r.length + 1 := by rw [bsB_size]; simp
      have hxt := tail_cut z r
      have i0z := idx0_bs z r
      have hTl : D.length ≤ 10000 := by have := HTK.out.2.2; omega
      --CASES
      have hszw := HB.out.size
      have hDz : ∀ x : UInt8, (D ++ [x]).length = D.length + 1 := fun x => by rw [List.length_append]; rfl
      have HSM : Hid ((bsB r).size < (bsB (z :: r)).size) := Lib.hid (by rw [bsB_size, bsB_size]; simp)
      have hzn : z.toNat < 256 := z.toNat_lt
      by_cases hz37 : z = 37
      · subst hz37
        have j0 := i0z
        change ∀ W, (Instr.index 9 (.string (bsB (37 :: r))) (.int .i64 0)).run Tryd.prog W = .ok (.int .u8 37) W at j0
        have HBC := Lib.hid (byteCells_snoc D 37)
        have HDZ := Lib.hid (hDz 37)
        have HLOW : Hid (pct1 (37 :: r) = none → TK l r (D ++ [37]) false) := Lib.hid fun h => by
          have h2 := HTK.out.one h
          rwa [show ((37 : UInt8) != 37) = false from rfl, Bool.and_false] at h2
        have hcase : r.length < 2 ∨ ∃ a d r', r = a :: d :: r' := by
          match r with
          | [] => exact .inl (by simp)
          | [_] => exact .inl (by simp)
          | a :: d :: r' => exact .inr ⟨a, d, r', rfl⟩
        rcases hcase with hr2l | ⟨a, d, r', hrr'⟩
        · have HTK2 := Lib.hid (HLOW.out (pct1_short (by simp; omega)))
          clear HTK HTK0 hDz hr1 hr2 HO0 HLOW
          generalize hzr : bsB (37 :: r) = t at *
          generalize hrr : bsB r = t2 at *
          replace hrr := Lib.hid hrr
          clear hzr
          generalize D.length = dn at *
          generalize r.length = rn at *
          generalize D ++ [37] = D2 at *
          generalize Lib.byteCells D = BC at *
          go_wp2_with (at_builtin; go_must (refine wpList_append_own _ rfl _ _ 46 rfl w.heap.size 5 i0 (.int .u8 0) 1 1 Tryd.underlying46 hi0 hz0 hz1 hz2 rfl (by decide) (.slice A dn c) dn BC rfl (HO.out.alloc _) ⟨wr.heap.size, 0, none⟩ 1 1 [.int .u8 37] rfl rfl (news1 wr _ _) (by simp [Value.oneCell']) (by unfold maxLen; omega) (by omega) (by simp; omega) ?_; intro v2 w5 hown2 hgrow2 _; obtain ⟨A2, c2, hv2, _⟩ := own_form hown2; subst hv2; have HO3 := Lib.hid hown2; have HB3 := Lib.hid ((HB.out.alloc hszw _).grown hgrow2 (by simp; omega) (fun j e => (HO.out.lt _ e).1)); clear hown2 hgrow2))
          go_roundw
          case rel => exact ⟨r, D2, false, A2, c2, by rw [hrr.out], rfl, by rw [HDZ.out], HTK2, Lib.hid (by rw [HDZ.out, HBC.out]; exact HO3.out), HB3⟩
          case measure => exact HSM.out
        · have i1 : ∀ W, (Instr.index 9 (.string (bsB (37 :: r))) (.int .i64 1)).run Tryd.prog W = .ok (.int .u8 a.toNat) W := idx_bs _ 1 a (by rw [hrr']; rfl)
          have i2 : ∀ W, (Instr.index 9 (.string (bsB (37 :: r))) (.int .i64 2)).run Tryd.prog W = .ok (.int .u8 d.toNat) W := idx_bs _ 2 d (by rw [hrr']; rfl)
          have hr2l : 2 ≤ r.length := by rw [hrr']; simp
          have HD1 := Lib.hid (refDigit_any a)
          have HD2 := Lib.hid (refDigit_any d)
          cases ha : hexV a with
          | none =>
            have HTK2 := Lib.hid (HLOW.out (by rw [hrr', pct1_37]; unfold hex2; rw [ha]))
            rw [dgV_none ha] at HD1
            clear HTK HTK0 hDz hr1 hr2 HO0 HLOW ha hrr' HD2
            generalize hzr : bsB (37 :: r) = t at *
            generalize hrr : bsB r = t2 at *
            replace hrr := Lib.hid hrr
            clear hzr
            generalize D.length = dn at *
            generalize r.length = rn at *
            generalize D ++ [37] = D2 at *
            generalize Lib.byteCells D = BC at *
            generalize a.toNat = an at *
            generalize d.toNat = en at *
            go_wp2_with (first | (go_at_call 65; (with_reducible refine (HD1.out _).mono ?_); rintro e w8 ⟨rfl, rfl⟩) | (at_builtin; go_must (refine wpList_append_own _ rfl _ _ 46 rfl w.heap.size 5 i0 (.int .u8 0) 1 1 Tryd.underlying46 hi0 hz0 hz1 hz2 rfl (by decide) (.slice A dn c) dn BC rfl (HO.out.alloc _) ⟨w8.heap.size, 0, none⟩ 1 1 [.int .u8 37] rfl rfl (news1 w8 _ _) (by simp [Value.oneCell']) (by unfold maxLen; omega) (by omega) (by simp; omega) ?_; intro v2 w5 hown2 hgrow2 _; obtain ⟨A2, c2, hv2, _⟩ := own_form hown2; subst hv2; have HO3 := Lib.hid hown2; have HB3 := Lib.hid ((HB.out.alloc hszw _).grown hgrow2 (by simp; omega) (fun j e => (HO.out.lt _ e).1)); clear hown2 hgrow2)))
            go_roundw
            case rel => exact ⟨r, D2, false, A2, c2, by rw [hrr.out], rfl, by rw [HDZ.out], HTK2, Lib.hid (by rw [HDZ.out, HBC.out]; exact HO3.out), HB3⟩
            case measure => exact HSM.out
          | some va =>
            rw [dgV_some ha] at HD1
            have hva := hexV_lt ha
            cases hd : hexV d with
            | none =>
              have HTK2 := Lib.hid (HLOW.out (by rw [hrr', pct1_37]; unfold hex2; rw [ha, hd]))
              rw [dgV_none hd] at HD2
              clear HTK HTK0 hDz hr1 hr2 HO0 HLOW ha hd hrr'
              generalize hzr : bsB (37 :: r) = t at *
              generalize hrr : bsB r = t2 at *
              replace hrr := Lib.hid hrr
              clear hzr
              generalize D.length = dn at *
              generalize r.length = rn at *
              generalize D ++ [37] = D2 at *
              generalize Lib.byteCells D = BC at *
              generalize a.toNat = an at *
              generalize d.toNat = en at *
              go_wp2_with (first | (go_at_call 65; (with_reducible refine (HD1.out _).mono ?_); rintro e w8 ⟨rfl, rfl⟩) | (go_at_call 65; (with_reducible refine (HD2.out _).mono ?_); rintro e w8 ⟨rfl, rfl⟩) | (at_builtin; go_must (refine wpList_append_own _ rfl _ _ 46 rfl w.heap.size 5 i0 (.int .u8 0) 1 1 Tryd.underlying46 hi0 hz0 hz1 hz2 rfl (by decide) (.slice A dn c) dn BC rfl (HO.out.alloc _) ⟨w8.heap.size, 0, none⟩ 1 1 [.int .u8 37] rfl rfl (news1 w8 _ _) (by simp [Value.oneCell']) (by unfold maxLen; omega) (by omega) (by simp; omega) ?_; intro v2 w5 hown2 hgrow2 _; obtain ⟨A2, c2, hv2, _⟩ := own_form hown2; subst hv2; have HO3 := Lib.hid hown2; have HB3 := Lib.hid ((HB.out.alloc hszw _).grown hgrow2 (by simp; omega) (fun j e => (HO.out.lt _ e).1)); clear hown2 hgrow2)))
              go_roundw
              case rel => exact ⟨r, D2, false, A2, c2, by rw [hrr.out], rfl, by rw [HDZ.out], HTK2, Lib.hid (by rw [HDZ.out, HBC.out]; exact HO3.out), HB3⟩
              case measure => exact HSM.out
            | some vd =>
              rw [dgV_some hd] at HD2
              have hvd := hexV_lt hd
              have hx : hex2 a d = some (UInt8.ofNat (16 * va + vd)) := by unfold hex2; rw [ha, hd]
              have HTK2 : Hid (TK l r' (D ++ [UInt8.ofNat (16 * va + vd)]) b) := Lib.hid (TK.three (by rw [← hrr']; exact HTK.out) hx)
              have hxn : (UInt8.ofNat (16 * va + vd)).toNat = 16 * va + vd := UInt8.toNat_ofNat_of_lt' (by show _ < 256; omega)
              have HBX : Hid (Lib.byteCells (D ++ [UInt8.ofNat (16 * va + vd)]) = Lib.byteCells D ++ [.int .u8 ((16 * va + vd : Nat) : Int)]) := Lib.hid (by rw [byteCells_snoc, hxn])
              have HDX := Lib.hid (hDz (UInt8.ofNat (16 * va + vd)))
              have hxt3 : (bsB (37 :: r)).extract 3 (bsB (37 :: r)).size = bsB r' := by rw [hrr']; exact tail_cut3 37 a d r'
              have HSM3 : Hid ((bsB r').size < (bsB (37 :: r)).size) := Lib.hid (by rw [hrr', bsB_size, bsB_size]; simp; omega)
              clear HTK HTK0 hDz hr1 hr2 HO0 HLOW ha hd hrr' hx hxn HBC HDZ hxt HSM
              generalize hzr : bsB (37 :: r) = t at *
              generalize hrr : bsB r' = t2 at *
              replace hrr := Lib.hid hrr
              clear hzr
              obtain ⟨z1, hw1⟩ : ∃ z1 : Int, IntKind.i64.wrap (16 * (va : Int)) = z1 := ⟨_, rfl⟩
              obtain ⟨z2, hw2⟩ : ∃ z2 : Int, IntKind.i64.wrap (z1 + vd) = z2 := ⟨_, rfl⟩
              have e1 : z1 = 16 * (va : Int) := by rw [← hw1]; exact wrapS64 _ (by omega) (by omega)
              have e2 : z2 = 16 * (va : Int) + vd := by rw [← hw2, e1]; exact wrapS64 _ (by omega) (by omega)
              have hw3 : IntKind.u8.wrap z2 = ((16 * va + vd : Nat) : Int) := by
                rw [e2, wrapS8 _ (by omega) (by omega)]
                omega
              clear e1 e2
              generalize D ++ [UInt8.ofNat (16 * va + vd)] = D2 at *
              generalize 16 * va + vd = xn at *
              generalize a.toNat = an at *
              generalize d.toNat = en at *
              generalize D.length = dn at *
              generalize r.length = rn at *
              generalize Lib.byteCells D = BC at *
              go_wp2_with (first | (go_at_call 65; (with_reducible refine (HD1.out _).mono ?_); rintro e w8 ⟨rfl, rfl⟩) | (go_at_call 65; (with_reducible refine (HD2.out _).mono ?_); rintro e w8 ⟨rfl, rfl⟩))
              go_region_law (first
                | ((refine step_append_own rfl _ _ 46 rfl w.heap.size 5 i0 (.int .u8 0) 1 1 Tryd.underlying46 hi0 hz0 hz1 hz2 rfl (by decide) (.slice A dn c) dn BC rfl (HO.out.alloc _) ⟨w8.heap.size, 0, none⟩ 1 1 [.int .u8 (xn : Int)] rfl rfl (news1 w8.drew _ _) (by simp [Value.oneCell']) (by unfold maxLen; omega) (by omega) (by simp; omega) ?_); intro v2 w5 hown2 hgrow2; obtain ⟨A2, c2, hv2, _⟩ := own_form hown2; subst hv2; have HO3 := Lib.hid hown2; have HB3 := Lib.hid ((HB.out.alloc hszw (.cells #[.int .u8 (xn : Int)] 5)).grown (grown_drew hgrow2) (by simp; omega) (fun j e => (HO.out.lt _ e).1)); clear hown2 hgrow2)
                | (go_simp; go_at_call 65; (with_reducible refine (HD1.out _).mono ?_); rintro e w8 ⟨rfl, rfl⟩)
                | (go_simp; go_at_call 65; (with_reducible refine (HD2.out _).mono ?_); rintro e w8 ⟨rfl, rfl⟩))
              all_goals
                (try simp only [Exit.then])
                go_wp2
                go_roundw
                case rel => exact ⟨r', D2, b, A2, c2, by rw [hrr.out], rfl, by rw [HDX.out], HTK2, Lib.hid (by rw [HDX.out, HBX.out]; exact HO3.out), HB3⟩
                case measure => exact HSM3.out
      · have HTK2 : Hid (TK l r (D ++ [z]) b) := Lib.hid (by
          have h := HTK.out.one (pct1_ne hz37 r)
          rwa [bne_iff_ne.2 hz37, Bool.and_true] at h)
        have hne : ¬ ((z.toNat : Int) = 37) := by
          have : z.toNat ≠ 37 := fun e => hz37 (UInt8.toNat_inj.1 e)
          omega
        have HBC := Lib.hid (byteCells_snoc D z)
        have HDZ := Lib.hid (hDz z)
        clear HTK HTK0 hz37 hDz hr1 hr2 HO0
        generalize hzr : bsB (z :: r) = t at *
        generalize hrr : bsB r = t2 at *
        replace hrr := Lib.hid hrr
        clear hzr
        generalize z.toNat = zn at *
        generalize D.length = dn at *
        generalize r.length = rn at *
        generalize D ++ [z] = D2 at *
        generalize Lib.byteCells D = BC at *
        go_wp2_with (at_builtin; go_must (refine wpList_append_own _ rfl _ _ 46 rfl w.heap.size 5 i0 (.int .u8 0) 1 1 Tryd.underlying46 hi0 hz0 hz1 hz2 rfl (by decide) (.slice A dn c) dn BC rfl (HO.out.alloc _) ⟨wr.heap.size, 0, none⟩ 1 1 [.int .u8 zn] rfl rfl (news1 wr _ _) (by simp [Value.oneCell']) (by unfold maxLen; omega) (by omega) (by simp; omega) ?_; intro v2 w5 hown2 hgrow2 _; obtain ⟨A2, c2, hv2, _⟩ := own_form hown2; subst hv2; have HO3 := Lib.hid hown2; have HB3 := Lib.hid ((HB.out.alloc hszw _).grown hgrow2 (by simp; omega) (fun j e => (HO.out.lt _ e).1)); clear hown2 hgrow2))
        go_roundw
        case rel => exact ⟨r, D2, b, A2, c2, by rw [hrr.out], rfl, by rw [HDZ.out], HTK2, Lib.hid (by rw [HDZ.out, HBC.out]; exact HO3.out), HB3⟩
        case measure => exact HSM.out
end Go.Proofs.YtkkhlmilcdlfoaaDoor
