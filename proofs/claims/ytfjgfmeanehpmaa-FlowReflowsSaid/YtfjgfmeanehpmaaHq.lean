/- The document's Split, its first loop. -/
import Derived.Test.YtfjgfmeanehpmaaHp
import Derived.Test.YtfjgfmeanehpmaaGj
import Derived.Deep.RegionLaw
import Derived.Deep.DeepCutAuto
namespace Go.Proofs.Ytfjgfmeanehpmaa
open Go.RowKit

theorem unpad_take (l : List CC) (i : Nat) (h : i < l.length) : unpad (l.take (i + 1)) = unpad (l.take i) ++ [if (Ac l i).h = 3 then bare (Ac l i) else Ac l i] := by
  have e : Ac l i = l[i] := by unfold Ac; rw [List.getElem?_eq_getElem h]; rfl
  rw [e, List.take_succ_eq_append_getElem h]
  unfold unpad
  rw [List.map_append]
  rfl
theorem step_append_own' {P : Program} {ops : Array Oper} {o : Oper} {a : Act} {w : World} {K : Act → World → Prop} {Q : Exit → Act → World → Prop} {E : Prop}
    (hg : o.guard = none) (s x : Operand) (t : TypeId) (hop : o.op = Op.call { callee := Callee.builtin Builtin.append, args := #[s, x], argTypes := #[t, t] })
    (base : Nat) (e : TypeId) (i : TypeInfo) (z : Value) (size bytes : Nat) (h1 : P.underlying t = some (.slice e)) (h2 : P.info? e = some i) (h3 : i.zero = some z) (h4 : i.size = size) (h5 : i.bytes = bytes) (h6 : z.cells.size = size) (h7 : 0 < size)
    (v : Value) (k : Nat) (xs : List Value) (hs : a.eval s = v) (hown : w.ownsRow base e size v k xs) (ad : Addr) (m c : Nat) (news : List Value) (hx : a.eval x = .slice (some ad) m c) (hn : news.length = m * size)
    (hc : ∀ j u, news[j]? = some u → w.cell? (ad.add j) = some u) (h1c : ∀ u ∈ news, u.oneCell' = true) (b1 : k + m ≤ maxLen) (b2 : (k + m) * bytes ≤ 140737488355328) (b3 : base ≤ w.heap.size)
    (hK : ∀ v' w', w'.ownsRow base e size v' (k + m) (xs ++ news) → w.grownBy w' v.ownBlock → K (a.put o.dst v') w') :
    if Region.wanted o (yielded ops a.tmps) = true then Oper.wp P o a w K Q else E := by
  have hw : Region.wanted o (yielded ops a.tmps) = true := by simp [Region.wanted, hg]
  rw [if_pos hw]
  exact wp_append_own _ s x t hop base e i z size bytes h1 h2 h3 h4 h5 h6 h7 v k xs hs hown ad m c news hx hn hc h1c b1 b2 b3 (fun v' w' h h' _ => hK v' w' h h')
theorem grown_drew' {w w' : World} {r : Option Nat} (h : w.drew.grownBy w' r) : w.grownBy w' r := ⟨h.os, h.tape, h.output, h.size, h.block⟩
/-- What the document's Split has laid so far. -/
def layAt (m : Nat) (g : List CC) (i : Nat) (D : List Rw) (cur : List CC) (k : Bool) : Prop := D ++ lay m k cur (g.drop i) = lay m false [] g ∧ cur.length ≤ m ∧ D.length ≤ i ∧ (i ≤ g.length)
theorem layAt_start (m : Nat) (g : List CC) : layAt m g 0 [] [] false := ⟨rfl, Nat.zero_le _, Nat.le_refl _, Nat.zero_le _⟩
theorem layAt_pad {m : Nat} (h2 : 2 ≤ m) {g : List CC} {i : Nat} {D : List Rw} {cur : List CC} {k : Bool} (h : layAt m g i D cur k) (hi : i < g.length) (h1 : cur.length + 1 = m) (hx : (Ac g i).h = 1) : layAt m g (i + 1) (D ++ [⟨cur ++ [padF], k⟩]) [Ac g i] true := by
  obtain ⟨e, a, b, c⟩ := h
  have ea : g[i] = Ac g i := by unfold Ac; rw [List.getElem?_eq_getElem hi]; rfl
  rw [List.drop_eq_getElem_cons hi, ea] at e
  refine ⟨?_, by simp; omega, by simp; omega, hi⟩
  rw [← e, List.append_assoc]
  congr 1
  conv => rhs; unfold lay
  rw [if_pos ⟨h1, hx⟩]
  rfl
theorem layAt_new {m : Nat} (h2 : 2 ≤ m) {g : List CC} {i : Nat} {D : List Rw} {cur : List CC} {k : Bool} (h : layAt m g i D cur k) (hi : i < g.length) (h1 : cur.length = m) : layAt m g (i + 1) (D ++ [⟨cur, k⟩]) [Ac g i] true := by
  obtain ⟨e, a, b, c⟩ := h
  have ea : g[i] = Ac g i := by unfold Ac; rw [List.getElem?_eq_getElem hi]; rfl
  rw [List.drop_eq_getElem_cons hi, ea] at e
  refine ⟨?_, by simp; omega, by simp; omega, hi⟩
  rw [← e, List.append_assoc]
  congr 1
  conv => rhs; unfold lay
  rw [if_neg (by omega), if_pos h1]
  rfl
theorem layAt_more {m : Nat} {g : List CC} {i : Nat} {D : List Rw} {cur : List CC} {k : Bool} (h : layAt m g i D cur k) (hi : i < g.length) (h1 : cur.length ≠ m) (h3 : ¬ (cur.length + 1 = m ∧ (Ac g i).h = 1)) : layAt m g (i + 1) D (cur ++ [Ac g i]) k := by
  obtain ⟨e, a, b, c⟩ := h
  have ea : g[i] = Ac g i := by unfold Ac; rw [List.getElem?_eq_getElem hi]; rfl
  rw [List.drop_eq_getElem_cons hi, ea] at e
  refine ⟨?_, by simp; omega, by omega, hi⟩
  rw [← e]
  congr 1
  conv => rhs; unfold lay
  rw [if_neg h3, if_neg h1]
theorem layAt_end {m : Nat} {g : List CC} {D : List Rw} {cur : List CC} {k : Bool} (h : layAt m g g.length D cur k) : D ++ [⟨cur ++ List.replicate (m - cur.length) CC.zero, k⟩] = lay m false [] g := by
  obtain ⟨e, _, _, _⟩ := h
  rw [List.drop_length] at e
  exact e
set_option maxRecDepth 100000 in
set_option maxHeartbeats 16000000 in
theorem refSplit_any (A : Option Addr) (l : List CC) (n c m : Nat) (hn : n = l.length) (h2 : 2 ≤ m) (hm : m ≤ 1000) (hl : n ≤ 100000) (w : World) (h : RC w w.heap.size A l) :
    Calls Try.prog 20 #[.slice A n c, .int .i64 m] w fun e w' => ∃ v, e = .returned v ∧ ORW w.heap.size w' v (splitL m l) ∧ Below w.heap.size w w' := by
  have HR := Lib.hid h
  have HN := Lib.hid hn
  obtain ⟨i0, hi0, hz0, hz1, hz2⟩ := info_parts infoCell
  obtain ⟨i1, hj0, hy0, hy1, hy2⟩ := info_parts infoRow
  clear h hn
  go_enter Try.func20, Try.ntmps20
  go_wp2
  go_loopw [5, 6] (fun v q wr => ∃ (i : Nat) (vo : Value), vo = v ∧ q = .int .i64 i ∧ i ≤ n ∧ Hid (wr.ownsRow w.heap.size 54 8 vo i (cellsC (unpad (l.take i)))) ∧ Hid (Below w.heap.size w wr)) (fun _ q _ => n - (intOf q).toNat)
  case atStart => exact ⟨0, _, rfl, rfl, Nat.zero_le _, Lib.hid (World.ownsRow_nil _ _ _ _), Lib.hid (Below.refl _ _)⟩
  case round =>
    obtain ⟨i, vo, rfl, rfl, hi, HO, HB⟩ := hrel
    by_cases hlt : i < n
    · have hlti : (i : Int) < n := by omega
      obtain ⟨b, off, rfl, hG⟩ := HR.out.at (fun e => by have := HN.out; rw [e] at this; simp at this; omega)
      obtain ⟨_, GA⟩ := hG _ HB.out
      obtain ⟨a0, a1, a2, a3, a4, a5, a6, a7⟩ := GA i (by have := HN.out; omega)
      have HT := Lib.hid (unpad_take l i (by have := HN.out; omega))
      obtain ⟨Ao, co, rfl, _⟩ := own_formK HO.out
      have hws := HB.out.size
      have HOWN : Hid (∀ W, Below wr.heap.size wr W → W.ownsRow w.heap.size 54 8 (.slice Ao i co) i (cellsC (unpad (l.take i)))) := Lib.hid fun W hW => own_pastK HO.out hW
      have HEND : Hid (∀ W w5 v5 y, y = (if (Ac l i).h = 3 then bare (Ac l i) else Ac l i) → Below wr.heap.size wr W → w5.ownsRow w.heap.size 54 8 v5 (i + 1) (cellsC (unpad (l.take i)) ++ encC y) → W.grownBy w5 (Value.slice Ao i co).ownBlock → w5.ownsRow w.heap.size 54 8 v5 (i + 1) (cellsC (unpad (l.take (i + 1)))) ∧ Below w.heap.size w w5) := Lib.hid fun W w5 v5 y hy hW h5 hg5 =>
        ⟨by rw [HT.out, ← hy, cellsC_snoc]; exact h5, own_below (own_pastK HO.out hW) (bel0 HB.out hW) (bel0 HB.out hW).size hg5⟩
      clear hG GA HO
      by_cases h3 : (Ac l i).h = 3
      · have HY : Hid (bare (Ac l i) = (if (Ac l i).h = 3 then bare (Ac l i) else Ac l i)) := Lib.hid (by rw [if_pos h3])
        have h3b : ((Ac l i).h == 3) = true := by simpa using h3
        clear h3 HT
        generalize cellsC (unpad (l.take i)) = ol at *
        generalize hx : Ac l i = x at *
        clear hx
        go_wp2_with (at_builtin; go_must (refine wpList_append_own _ rfl _ _ 29 rfl w.heap.size 54 i0 _ 8 72 Try.underlying29 hi0 hz0 hz1 hz2 rfl (by decide) (.slice Ao i co) i ol rfl (HOWN.out _ (belA (belA (Below.refl _ _) _) _)) ⟨wr.heap.size + 1, 0, none⟩ 1 1 (encC (bare x)) rfl rfl (newsAt (by simp) (bare x) _) (encC_one (bare x)) (by unfold maxLen; omega) (by omega) (by simp; omega) ?_; intro v5 w5 hown5 hgrow5 _; have HZ := Lib.hid (HEND.out _ _ _ _ HY.out (belA (belA (Below.refl _ _) _) _) hown5 hgrow5); clear hown5 hgrow5))
        go_roundw
        case rel => exact ⟨i + 1, _, rfl, by go_num, hlt, Lib.hid HZ.out.1, Lib.hid HZ.out.2⟩
        case measure => simp [intOf]; omega
      · have HY : Hid (Ac l i = (if (Ac l i).h = 3 then bare (Ac l i) else Ac l i)) := Lib.hid (by rw [if_neg h3])
        have h3b : ((Ac l i).h == 3) = false := by simpa using h3
        clear h3 HT
        generalize cellsC (unpad (l.take i)) = ol at *
        generalize hx : Ac l i = x at *
        clear hx
        go_wp2_with (at_builtin; go_must (refine wpList_append_own _ rfl _ _ 29 rfl w.heap.size 54 i0 _ 8 72 Try.underlying29 hi0 hz0 hz1 hz2 rfl (by decide) (.slice Ao i co) i ol rfl (HOWN.out _ (belA (belA (Below.refl _ _) _) _)) ⟨wr.heap.size + 1, 0, none⟩ 1 1 (encC x) rfl rfl (newsAt (by simp) x _) (encC_one x) (by unfold maxLen; omega) (by omega) (by simp; omega) ?_; intro v5 w5 hown5 hgrow5 _; have HZ := Lib.hid (HEND.out _ _ _ _ HY.out (belA (belA (Below.refl _ _) _) _) hown5 hgrow5); clear hown5 hgrow5))
        go_roundw
        case rel => exact ⟨i + 1, _, rfl, by go_num, hlt, Lib.hid HZ.out.1, Lib.hid HZ.out.2⟩
        case measure => simp [intOf]; omega
    · obtain rfl : i = n := by omega
      obtain ⟨Ao, co, rfl, _⟩ := own_formK HO.out
      have HM : Hid (Calls Try.prog 28 #[.slice Ao i co] wr fun e w' => ∃ A' c', e = .returned (.slice A' i c') ∧ RC w' w'.heap.size A' (mendL (unpad l)) ∧ Below w.heap.size w w') := Lib.hid <| by
        have ho := HO.out
        rw [HN.out, List.take_length, ← HN.out] at ho
        refine (refMend_big Ao (unpad l) i co (by rw [unpad_len]; exact HN.out) hl wr (RC.of_own ho (by rw [unpad_len]; exact HN.out))).mono fun e w' ⟨v, he, ho, hb⟩ => ?_
        obtain ⟨A', c', hv, hc', hr⟩ := ho.form'
        rw [mendL_len, unpad_len, ← HN.out] at hv
        subst hv
        exact ⟨A', c', he, hr, bel0 HB.out hb⟩
      have HML : Hid ((mendL (unpad l)).length = i) := Lib.hid (by rw [mendL_len, unpad_len]; exact HN.out.symm)
      have HSP : Hid (splitL m l = lay m false [] (mendL (unpad l))) := Lib.hid rfl
      generalize mendL (unpad l) = g at *
      clear HO HR
      generalize i = n at *
      go_wp2_with (go_at_call 28; (with_reducible refine (HM.out).mono ?_); rintro e w2 ⟨A2, c2, rfl, hr, hb⟩; have HB2 := Lib.hid hb; have HR2 := Lib.hid hr; clear hb hr)
      have HST : Hid (∃ C D raw cur k vc, layAt m g 0 D cur k ∧ D.length = 0 ∧ PS (w2.alloc (.cells #[.slice none 0 0, .bool false] 31)) w2.heap.size C (.slice (some ⟨w2.heap.size, 0, none⟩) (0 + 1) 1) D raw cur k vc) := Lib.hid ⟨_, _, _, _, _, _, layAt_start m g, rfl, ps_first w2⟩
      have HSB := Lib.hid (belA (Below.refl w2.heap.size w2) (.cells #[.slice none 0 0, .bool false] 31))
      clear HM HB
      go_loopw [8, 9] (fun v q wr => ∃ (i d gb cb : Nat), v = .slice (some ⟨gb, 0, none⟩) (d + 1) cb ∧ q = .int .i64 i ∧ i ≤ n ∧ d ≤ i ∧ Hid (∃ C D raw cur k vc, layAt m g i D cur k ∧ D.length = d ∧ PS wr w2.heap.size C (.slice (some ⟨gb, 0, none⟩) (d + 1) cb) D raw cur k vc) ∧ Hid (Below w2.heap.size w2 wr)) (fun _ q _ => n - (intOf q).toNat)
      case atStart => exact ⟨0, 0, _, _, rfl, rfl, Nat.zero_le _, Nat.le_refl _, HST, HSB⟩
      case round =>
        obtain ⟨i, d, gb, cb, rfl, rfl, hi, hd, HS, HB⟩ := hrel
        by_cases hlt : i < n
        · have hlti : (i : Int) < n := by omega
          obtain ⟨b, off, rfl, hG⟩ := HR2.out.at (fun e => by have := HML.out; rw [e] at this; simp at this; omega)
          have HX : Hid (∀ W, Below w2.heap.size w2 W → C8 W b (off + i * 8) (Ac g i) ∧ b < W.heap.size) := Lib.hid fun W hW => ⟨(hG W hW).2 i (by have := HML.out; omega), (hG W hW).1⟩
          obtain ⟨C, D, raw, cur, k, vc, hla, hD, hps⟩ := HS.out
          obtain ⟨Ac', cc, rfl, hqc⟩ := hps.form
          have hcl := hla.2.1
          have hdl := hla.2.2.1
          have HLA := Lib.hid hla
          have HD := Lib.hid hD
          have HPS := Lib.hid hps
          obtain ⟨q, hq⟩ : ∃ q, cur.length = q := ⟨_, rfl⟩
          have HQ := Lib.hid hq
          rw [hq] at hcl
          have hmw : IntKind.i64.wrap ((m : Int) - 1) = (m : Int) - 1 := by rw [IntKind.wrap_i64]; omega
          clear hG HS hla hps hD hq HST HSB
          by_cases hA : q + 1 = m ∧ (Ac g i).h = 1
          · obtain ⟨hq1, hx1⟩ := hA
            have hqa : m ≤ q + 1 := by omega
            have hqb : q + 1 ≤ m := by omega
            have HP0 : Hid (PS wr w2.heap.size C (.slice (some ⟨gb, 0, none⟩) (d + 1) cb) D raw cur k (.slice Ac' q cc)) := Lib.hid (by have := HPS.out; rwa [HQ.out] at this)
            have HLN0 : Hid (layAt m g (i + 1) (D ++ [⟨cur ++ [padF], k⟩]) ([] ++ [Ac g i]) true) := Lib.hid (layAt_pad h2 HLA.out (by have := HML.out; omega) (by rw [HQ.out]; exact hq1) hx1)
            clear hq1
            have HCL : Hid ((cur ++ [padF]).length = q + 1) := Lib.hid (by rw [List.length_append, HQ.out]; rfl)
            obtain ⟨⟨b0, b1, b2, b3, b4, b5, b6, b7⟩, hbl0⟩ := HX.out _ HB.out
            rw [hx1] at b2
            obtain ⟨g01, cb01, e01, _, hgl1, _, k01, k11, kf1⟩ := HP0.out.slot
            rw [HD.out] at e01 k01 k11 kf1
            obtain ⟨rfl, rfl⟩ : gb = g01 ∧ cb = cb01 := by injection e01 with e1 _ e3; injection e1 with e1; injection e1 with e1 _ _; exact ⟨e1, e3⟩
            have hCz := HP0.out.sz
            have HOWN : Hid ((wr.alloc (.cells #[.int .i32 0, .string ⟨#[]⟩, .int .i64 3, .int .i64 0, .int .i64 0, .int .i64 0, .int .i64 0, .int .i64 0] 54)).ownsRow C 54 8 (.slice Ac' q cc) q (cellsC cur)) := Lib.hid (by have := own_pastK HP0.out.cur (belA (Below.refl wr.heap.size wr) (.cells #[.int .i32 0, .string ⟨#[]⟩, .int .i64 3, .int .i64 0, .int .i64 0, .int .i64 0, .int .i64 0, .int .i64 0] 54)); rwa [HQ.out] at this)
            have HGR : Hid (∀ w5 v2, (wr.alloc (.cells #[.int .i32 0, .string ⟨#[]⟩, .int .i64 3, .int .i64 0, .int .i64 0, .int .i64 0, .int .i64 0, .int .i64 0] 54)).grownBy w5 (Value.slice Ac' q cc).ownBlock → w5.ownsRow C 54 8 v2 (q + 1) (cellsC cur ++ encC padF) → w5.cell? ⟨gb, d * 2, none⟩ = some (.slice Ac' q cc) ∧ w5.frozen? ⟨gb, d * 2, none⟩ = false ∧ PS (w5.setCell ⟨gb, d * 2, none⟩ v2) w2.heap.size C (.slice (some ⟨gb, 0, none⟩) (d + 1) cb) D raw (cur ++ [padF]) k v2 ∧ Below w2.heap.size w2 (w5.setCell ⟨gb, d * 2, none⟩ v2)) := Lib.hid fun w5 v2 hg h2 => by
              have hp := HP0.out.past (belA (Below.refl wr.heap.size wr) (.cells #[.int .i32 0, .string ⟨#[]⟩, .int .i64 3, .int .i64 0, .int .i64 0, .int .i64 0, .int .i64 0, .int .i64 0] 54))
              rw [← HD.out] at hp
              have h := hp.grow (cur2 := cur ++ [padF]) hg (by rw [List.length_append, HQ.out, cellsC_snoc]; exact h2)
              rw [HD.out] at h
              exact ⟨h.1, h.2.1, h.2.2.1, h.2.2.2 (belA HB.out _)⟩
            have hmq : ((q : Int) == (m : Int) - 1) = true := by simp; omega
            have hmq2 : ((q : Int) + 1 == (m : Int)) = true := by simp; omega
            have hmq3 : ((q + 1 : Nat) == m) = true := by simp; omega
            have hmq4 : (((q + 1 : Nat) : Int) == (m : Int)) = true := by simp; omega
            have hdd0 : (d : Int) < (d : Int) + 1 := by omega
            clear e01 HP0 hx1
            generalize hol : cellsC cur = ol at HOWN HGR
            clear hol
            go_upto_region 17 with (at_builtin; go_must (refine wpList_append_own _ rfl _ _ 29 rfl C 54 i0 _ 8 72 Try.underlying29 hi0 hz0 hz1 hz2 rfl (by decide) (.slice Ac' q cc) q ol rfl HOWN.out ⟨wr.heap.size, 0, none⟩ 1 1 (encC padF) rfl rfl (news8' wr padF _) (encC_one padF) (by unfold maxLen; omega) (by omega) (by simp; omega) ?_; intro v2 w6 hown2 hgrow2 _; obtain ⟨A6, c6, rfl, _⟩ := own_formK hown2; obtain ⟨hc5, hr5, hp5, hb5⟩ := HGR.out w6 _ hgrow2 hown2; have HP := Lib.hid hp5; have HBW := Lib.hid hb5; clear hown2 hgrow2 hp5 hb5))
            clear hc5 hr5 k01 k11 kf1 hgl1 hCz HOWN HGR b0 b1 b2 b3 b4 b5 b6 b7 hbl0 hmq
            generalize w6.setCell ⟨gb, d * 2, none⟩ (.slice A6 (q + 1) c6) = W1 at *
            obtain ⟨g00, cb00, e00, _, hgl0, _, k00, k10, kf0⟩ := HP.out.slot
            rw [HD.out] at e00 k00 k10 kf0
            obtain ⟨rfl, rfl⟩ : gb = g00 ∧ cb = cb00 := by injection e00 with e1 _ e3; injection e1 with e1; injection e1 with e1 _ _; exact ⟨e1, e3⟩
            have hwz := HBW.out.size
            have HOO : Hid ((W1.alloc (.cells #[.slice none 0 0, .bool true] 31)).ownsRow w2.heap.size 31 2 (.slice (some ⟨gb, 0, none⟩) (d + 1) cb) (d + 1) (rowsV encW raw ++ [.slice A6 (q + 1) c6, .bool k])) := Lib.hid (by have := own_pastK HP.out.outer (belA (Below.refl W1.heap.size W1) (.cells #[.slice none 0 0, .bool true] 31)); rwa [HD.out] at this)
            have HNXT : Hid (∀ w5 v5, w5.ownsRow w2.heap.size 31 2 v5 (d + 1 + 1) (rowsV encW raw ++ [.slice A6 (q + 1) c6, .bool k] ++ [.slice none 0 0, .bool true]) → (W1.alloc (.cells #[.slice none 0 0, .bool true] 31)).grownBy w5 (Value.slice (some ⟨gb, 0, none⟩) (d + 1) cb).ownBlock → ∃ g5 c5 C D raw cur k A q cc, v5 = .slice (some ⟨g5, 0, none⟩) (d + 1 + 1) c5 ∧ PS w5 w2.heap.size C (.slice (some ⟨g5, 0, none⟩) (d + 1 + 1) c5) D raw cur k (.slice A q cc) ∧ D.length = d + 1 ∧ cur.length = q ∧ q ≤ m ∧ layAt m g (i + 1) D (cur ++ [Ac g i]) k ∧ Below w2.heap.size w2 w5) := Lib.hid fun w5 v5 h5 hg5 => by
              have hn := PS.next (w := W1) (cur := (cur ++ [padF])) HCL.out.symm HP.out (belA (Below.refl W1.heap.size W1) (.cells #[.slice none 0 0, .bool true] 31)) hg5 (by rw [HD.out]; exact h5)
              obtain ⟨g5, c5, e5, _⟩ := hn.slot
              have el : (D ++ [(⟨(cur ++ [padF]), k⟩ : Rw)]).length = d + 1 := by rw [List.length_append, HD.out]; rfl
              rw [el] at e5
              subst e5
              exact ⟨g5, c5, _, _, _, _, _, _, _, _, rfl, hn, el, rfl, Nat.zero_le _, HLN0.out, own_below (own_pastK HP.out.outer (belA (Below.refl _ _) _)) (belA HBW.out _) (belA HBW.out _).size hg5⟩
            have HOB := Lib.hid HBW.out.size
            clear e00 HP HBW HPS HLA HCL HLN0
            generalize rowsV encW raw ++ [.slice A6 (q + 1) c6, .bool k] = os at HOO HNXT
            go_upto_region 20 with (at_builtin; go_must (refine wpList_append_own _ rfl _ _ 22 rfl w2.heap.size 31 i1 _ 2 32 Try.underlying22 hj0 hy0 hy1 hy2 rfl (by decide) (.slice (some ⟨gb, 0, none⟩) (d + 1) cb) (d + 1) os rfl HOO.out ⟨W1.heap.size, 0, none⟩ 1 1 [.slice none 0 0, .bool true] rfl rfl (newsW W1 ⟨none, 0, 0, true⟩ _) (encW_one ⟨none, 0, 0, true⟩) (by unfold maxLen; omega) (by omega) (by simp; omega) ?_; intro v5 wn hown5 hgrow5 _; obtain ⟨g5, c5, C5, D5, raw5, cur5, k5, A5, q5, cc5, rfl, hps5, hD5, hq5, hqm5, hla5, hb5⟩ := HNXT.out _ _ hown5 hgrow5; have HP := Lib.hid hps5; have HD5 := Lib.hid hD5; have HQ5 := Lib.hid hq5; have HL5 := Lib.hid hla5; have HBW := Lib.hid hb5; clear hown5 hgrow5 hps5 hD5 hq5 hla5 hb5))
            clear HOO HNXT k00 k10 kf0 hgl0
            obtain ⟨⟨a0, a1, a2, a3, a4, a5, a6, a7⟩, hbl⟩ := HX.out _ HBW.out
            have HLN := Lib.hid (HL5.out)
            generalize hx : Ac g i = x at *
            clear hx
            obtain ⟨g0, cb0, e0, _, hgl, _, k0, k1, kf⟩ := HP.out.slot
            rw [HD5.out] at e0 k0 k1 kf
            obtain ⟨rfl, rfl⟩ : g5 = g0 ∧ c5 = cb0 := by injection e0 with e1 _ e3; injection e1 with e1; injection e1 with e1 _ _; exact ⟨e1, e3⟩
            have hCz := HP.out.sz
            have hdd : ((d : Int) + 1) < ((d : Int) + 1) + 1 := by omega
            have hd0 : (0 : Int) ≤ ((d : Int) + 1) := by omega
            have HOWN : Hid ((wn.alloc (.cells #[.int .i32 x.r, .string x.m, .int .i64 x.h, .int .i64 x.fk, .int .i64 x.fn, .int .i64 x.bk, .int .i64 x.bn, .int .i64 x.fl] 54)).ownsRow C5 54 8 (.slice A5 q5 cc5) q5 (cellsC cur5)) := Lib.hid (by have := own_pastK HP.out.cur (belA (Below.refl wn.heap.size wn) (.cells #[.int .i32 x.r, .string x.m, .int .i64 x.h, .int .i64 x.fk, .int .i64 x.fn, .int .i64 x.bk, .int .i64 x.bn, .int .i64 x.fl] 54)); rwa [HQ5.out] at this)
            have HGR : Hid (∀ w5 v2, (wn.alloc (.cells #[.int .i32 x.r, .string x.m, .int .i64 x.h, .int .i64 x.fk, .int .i64 x.fn, .int .i64 x.bk, .int .i64 x.bn, .int .i64 x.fl] 54)).grownBy w5 (Value.slice A5 q5 cc5).ownBlock → w5.ownsRow C5 54 8 v2 (q5 + 1) (cellsC cur5 ++ encC x) → w5.cell? ⟨g5, (d + 1) * 2, none⟩ = some (.slice A5 q5 cc5) ∧ w5.frozen? ⟨g5, (d + 1) * 2, none⟩ = false ∧ PS (w5.setCell ⟨g5, (d + 1) * 2, none⟩ v2) w2.heap.size C5 (.slice (some ⟨g5, 0, none⟩) ((d + 1) + 1) c5) D5 raw5 (cur5 ++ [x]) k5 v2 ∧ Below w2.heap.size w2 (w5.setCell ⟨g5, (d + 1) * 2, none⟩ v2)) := Lib.hid fun w5 v2 hg h2 => by
              have hp := HP.out.past (belA (Below.refl wn.heap.size wn) (.cells #[.int .i32 x.r, .string x.m, .int .i64 x.h, .int .i64 x.fk, .int .i64 x.fn, .int .i64 x.bk, .int .i64 x.bn, .int .i64 x.fl] 54))
              rw [← HD5.out] at hp
              have h := hp.grow (cur2 := cur5 ++ [x]) hg (by rw [List.length_append, HQ5.out, cellsC_snoc]; exact h2)
              rw [HD5.out] at h
              exact ⟨h.1, h.2.1, h.2.2.1, h.2.2.2 (belA HBW.out _)⟩
            clear e0 HX HP HBW
            generalize cellsC cur5 = ol at HOWN HGR
            go_region_law (first
              | ((refine step_append_own' rfl _ _ 29 rfl C5 54 i0 _ 8 72 Try.underlying29 hi0 hz0 hz1 hz2 rfl (by decide) (.slice A5 q5 cc5) q5 ol rfl HOWN.out ⟨wn.heap.size, 0, none⟩ 1 1 (encC x) rfl rfl (news8' wn.drew x _) (encC_one x) (by unfold maxLen; omega) (by omega) (by simp; omega) ?_); intro v2 w6 hown2 hgrow2; obtain ⟨A6, c6, rfl, _⟩ := own_formK hown2; obtain ⟨hc5, hr5, hp5, hb5⟩ := HGR.out w6 _ (grown_drew' hgrow2) hown2; have HP5 := Lib.hid hp5; have HB5 := Lib.hid hb5; clear hown2 hgrow2 hp5 hb5))
            all_goals
              go_wp2
              go_roundw
              case rel => exact ⟨i + 1, (d + 1), g5, c5, rfl, by go_num, hlt, by omega, Lib.hid ⟨_, _, _, _, _, _, HLN.out, HD5.out, HP5.out⟩, HB5⟩
              case measure => simp [intOf]; omega
          · by_cases hBq : q = m
            · subst hBq
              have HCL : Hid (cur.length = q) := HQ
              have HLN0 : Hid (layAt q g (i + 1) (D ++ [⟨cur, k⟩]) ([] ++ [Ac g i]) true) := Lib.hid (layAt_new h2 HLA.out (by have := HML.out; omega) HQ.out)
              have HP : Hid (PS wr w2.heap.size C (.slice (some ⟨gb, 0, none⟩) (d + 1) cb) D raw cur k (.slice Ac' q cc)) := Lib.hid (by have := HPS.out; rwa [HQ.out] at this)
              have HBW := HB
              have hmq : ((q : Int) == (q : Int) - 1) = false := by simp; omega
              obtain ⟨g00, cb00, e00, _, hgl0, _, k00, k10, kf0⟩ := HP.out.slot
              rw [HD.out] at e00 k00 k10 kf0
              obtain ⟨rfl, rfl⟩ : gb = g00 ∧ cb = cb00 := by injection e00 with e1 _ e3; injection e1 with e1; injection e1 with e1 _ _; exact ⟨e1, e3⟩
              have hwz := HBW.out.size
              have HOO : Hid ((wr.alloc (.cells #[.slice none 0 0, .bool true] 31)).ownsRow w2.heap.size 31 2 (.slice (some ⟨gb, 0, none⟩) (d + 1) cb) (d + 1) (rowsV encW raw ++ [.slice Ac' q cc, .bool k])) := Lib.hid (by have := own_pastK HP.out.outer (belA (Below.refl wr.heap.size wr) (.cells #[.slice none 0 0, .bool true] 31)); rwa [HD.out] at this)
              have HNXT : Hid (∀ w5 v5, w5.ownsRow w2.heap.size 31 2 v5 (d + 1 + 1) (rowsV encW raw ++ [.slice Ac' q cc, .bool k] ++ [.slice none 0 0, .bool true]) → (wr.alloc (.cells #[.slice none 0 0, .bool true] 31)).grownBy w5 (Value.slice (some ⟨gb, 0, none⟩) (d + 1) cb).ownBlock → ∃ g5 c5 C D raw cur k A q' cc, v5 = .slice (some ⟨g5, 0, none⟩) (d + 1 + 1) c5 ∧ PS w5 w2.heap.size C (.slice (some ⟨g5, 0, none⟩) (d + 1 + 1) c5) D raw cur k (.slice A q' cc) ∧ D.length = d + 1 ∧ cur.length = q' ∧ q' ≤ q ∧ layAt q g (i + 1) D (cur ++ [Ac g i]) k ∧ Below w2.heap.size w2 w5) := Lib.hid fun w5 v5 h5 hg5 => by
                have hn := PS.next (w := wr) (cur := cur) HCL.out.symm HP.out (belA (Below.refl wr.heap.size wr) (.cells #[.slice none 0 0, .bool true] 31)) hg5 (by rw [HD.out]; exact h5)
                obtain ⟨g5, c5, e5, _⟩ := hn.slot
                have el : (D ++ [(⟨cur, k⟩ : Rw)]).length = d + 1 := by rw [List.length_append, HD.out]; rfl
                rw [el] at e5
                subst e5
                exact ⟨g5, c5, _, _, _, _, _, _, _, _, rfl, hn, el, rfl, Nat.zero_le _, HLN0.out, own_below (own_pastK HP.out.outer (belA (Below.refl _ _) _)) (belA HBW.out _) (belA HBW.out _).size hg5⟩
              have HOB := Lib.hid HBW.out.size
              clear e00 HP HBW HPS HLA HCL HLN0
              generalize rowsV encW raw ++ [.slice Ac' q cc, .bool k] = os at HOO HNXT
              go_upto_region 20 with (at_builtin; go_must (refine wpList_append_own _ rfl _ _ 22 rfl w2.heap.size 31 i1 _ 2 32 Try.underlying22 hj0 hy0 hy1 hy2 rfl (by decide) (.slice (some ⟨gb, 0, none⟩) (d + 1) cb) (d + 1) os rfl HOO.out ⟨wr.heap.size, 0, none⟩ 1 1 [.slice none 0 0, .bool true] rfl rfl (newsW wr ⟨none, 0, 0, true⟩ _) (encW_one ⟨none, 0, 0, true⟩) (by unfold maxLen; omega) (by omega) (by simp; omega) ?_; intro v5 wn hown5 hgrow5 _; obtain ⟨g5, c5, C5, D5, raw5, cur5, k5, A5, q5, cc5, rfl, hps5, hD5, hq5, hqm5, hla5, hb5⟩ := HNXT.out _ _ hown5 hgrow5; have HP := Lib.hid hps5; have HD5 := Lib.hid hD5; have HQ5 := Lib.hid hq5; have HL5 := Lib.hid hla5; have HBW := Lib.hid hb5; clear hown5 hgrow5 hps5 hD5 hq5 hla5 hb5))
              clear HOO HNXT k00 k10 kf0 hgl0
              obtain ⟨⟨a0, a1, a2, a3, a4, a5, a6, a7⟩, hbl⟩ := HX.out _ HBW.out
              have HLN := Lib.hid (HL5.out)
              generalize hx : Ac g i = x at *
              clear hx
              obtain ⟨g0, cb0, e0, _, hgl, _, k0, k1, kf⟩ := HP.out.slot
              rw [HD5.out] at e0 k0 k1 kf
              obtain ⟨rfl, rfl⟩ : g5 = g0 ∧ c5 = cb0 := by injection e0 with e1 _ e3; injection e1 with e1; injection e1 with e1 _ _; exact ⟨e1, e3⟩
              have hCz := HP.out.sz
              have hdd : ((d : Int) + 1) < ((d : Int) + 1) + 1 := by omega
              have hd0 : (0 : Int) ≤ ((d : Int) + 1) := by omega
              have HOWN : Hid ((wn.alloc (.cells #[.int .i32 x.r, .string x.m, .int .i64 x.h, .int .i64 x.fk, .int .i64 x.fn, .int .i64 x.bk, .int .i64 x.bn, .int .i64 x.fl] 54)).ownsRow C5 54 8 (.slice A5 q5 cc5) q5 (cellsC cur5)) := Lib.hid (by have := own_pastK HP.out.cur (belA (Below.refl wn.heap.size wn) (.cells #[.int .i32 x.r, .string x.m, .int .i64 x.h, .int .i64 x.fk, .int .i64 x.fn, .int .i64 x.bk, .int .i64 x.bn, .int .i64 x.fl] 54)); rwa [HQ5.out] at this)
              have HGR : Hid (∀ w5 v2, (wn.alloc (.cells #[.int .i32 x.r, .string x.m, .int .i64 x.h, .int .i64 x.fk, .int .i64 x.fn, .int .i64 x.bk, .int .i64 x.bn, .int .i64 x.fl] 54)).grownBy w5 (Value.slice A5 q5 cc5).ownBlock → w5.ownsRow C5 54 8 v2 (q5 + 1) (cellsC cur5 ++ encC x) → w5.cell? ⟨g5, (d + 1) * 2, none⟩ = some (.slice A5 q5 cc5) ∧ w5.frozen? ⟨g5, (d + 1) * 2, none⟩ = false ∧ PS (w5.setCell ⟨g5, (d + 1) * 2, none⟩ v2) w2.heap.size C5 (.slice (some ⟨g5, 0, none⟩) ((d + 1) + 1) c5) D5 raw5 (cur5 ++ [x]) k5 v2 ∧ Below w2.heap.size w2 (w5.setCell ⟨g5, (d + 1) * 2, none⟩ v2)) := Lib.hid fun w5 v2 hg h2 => by
                have hp := HP.out.past (belA (Below.refl wn.heap.size wn) (.cells #[.int .i32 x.r, .string x.m, .int .i64 x.h, .int .i64 x.fk, .int .i64 x.fn, .int .i64 x.bk, .int .i64 x.bn, .int .i64 x.fl] 54))
                rw [← HD5.out] at hp
                have h := hp.grow (cur2 := cur5 ++ [x]) hg (by rw [List.length_append, HQ5.out, cellsC_snoc]; exact h2)
                rw [HD5.out] at h
                exact ⟨h.1, h.2.1, h.2.2.1, h.2.2.2 (belA HBW.out _)⟩
              clear e0 HX HP HBW
              generalize cellsC cur5 = ol at HOWN HGR
              go_region_law (first
                | ((refine step_append_own' rfl _ _ 29 rfl C5 54 i0 _ 8 72 Try.underlying29 hi0 hz0 hz1 hz2 rfl (by decide) (.slice A5 q5 cc5) q5 ol rfl HOWN.out ⟨wn.heap.size, 0, none⟩ 1 1 (encC x) rfl rfl (news8' wn.drew x _) (encC_one x) (by unfold maxLen; omega) (by omega) (by simp; omega) ?_); intro v2 w6 hown2 hgrow2; obtain ⟨A6, c6, rfl, _⟩ := own_formK hown2; obtain ⟨hc5, hr5, hp5, hb5⟩ := HGR.out w6 _ (grown_drew' hgrow2) hown2; have HP5 := Lib.hid hp5; have HB5 := Lib.hid hb5; clear hown2 hgrow2 hp5 hb5))
              all_goals
                go_wp2
                go_roundw
                case rel => exact ⟨i + 1, (d + 1), g5, c5, rfl, by go_num, hlt, by omega, Lib.hid ⟨_, _, _, _, _, _, HLN.out, HD5.out, HP5.out⟩, HB5⟩
                case measure => simp [intOf]; omega
            · have hne : cur.length ≠ m := by have := HQ.out; omega
              have hnp : ¬ (cur.length + 1 = m ∧ (Ac g i).h = 1) := by have := HQ.out; omega
              have HLM := Lib.hid (layAt_more HLA.out (by have := HML.out; omega) hne hnp)
              have HP : Hid (PS wr w2.heap.size C (.slice (some ⟨gb, 0, none⟩) (d + 1) cb) D raw cur k (.slice Ac' q cc)) := Lib.hid (by have := HPS.out; rwa [HQ.out] at this)
              have HBW := HB
              obtain ⟨⟨b0, b1, b2, b3, b4, b5, b6, b7⟩, hbl0⟩ := HX.out _ HB.out
              obtain ⟨g00, cb00, e00, _, hgl0, _, k00, k10, kf0⟩ := HP.out.slot
              rw [HD.out] at e00 k00 k10 kf0
              obtain ⟨rfl, rfl⟩ : gb = g00 ∧ cb = cb00 := by injection e00 with e1 _ e3; injection e1 with e1; injection e1 with e1 _ _; exact ⟨e1, e3⟩
              have hmq : ((q : Int) == m) = false := by simp; omega
              have hmh : ((q : Int) == (m : Int) - 1) = true ∧ ((Ac g i).h == 1) = false ∨ ((q : Int) == (m : Int) - 1) = false := by
                rcases Nat.lt_or_ge (q + 1) m with h | h
                · right; simp; omega
                · left
                  have e : q + 1 = m := by omega
                  exact ⟨by simp; omega, by simpa using fun h => hA ⟨e, h⟩⟩
              generalize hxx : (Ac g i).h = xh at b2 hmh
              clear hxx hne hnp e00 HPS HLA hA
              rcases hmh with ⟨hm1, hm2⟩ | hm1
              all_goals
                go_wp2_with fail
                clear b0 b1 b2 b3 b4 b5 b6 b7 k00 k10 kf0 hgl0 hbl0
                generalize wr = W at *
                obtain ⟨⟨a0, a1, a2, a3, a4, a5, a6, a7⟩, hbl⟩ := HX.out _ HBW.out
                have HLN := Lib.hid (HLM.out)
                generalize hx : Ac g i = x at *
                clear hx
                obtain ⟨g0, cb0, e0, _, hgl, _, k0, k1, kf⟩ := HP.out.slot
                rw [HD.out] at e0 k0 k1 kf
                obtain ⟨rfl, rfl⟩ : gb = g0 ∧ cb = cb0 := by injection e0 with e1 _ e3; injection e1 with e1; injection e1 with e1 _ _; exact ⟨e1, e3⟩
                have hCz := HP.out.sz
                have hdd : (d : Int) < (d : Int) + 1 := by omega
                have hd0 : (0 : Int) ≤ (d : Int) := by omega
                have HOWN : Hid ((W.alloc (.cells #[.int .i32 x.r, .string x.m, .int .i64 x.h, .int .i64 x.fk, .int .i64 x.fn, .int .i64 x.bk, .int .i64 x.bn, .int .i64 x.fl] 54)).ownsRow C 54 8 (.slice Ac' q cc) q (cellsC cur)) := Lib.hid (by have := own_pastK HP.out.cur (belA (Below.refl W.heap.size W) (.cells #[.int .i32 x.r, .string x.m, .int .i64 x.h, .int .i64 x.fk, .int .i64 x.fn, .int .i64 x.bk, .int .i64 x.bn, .int .i64 x.fl] 54)); rwa [HQ.out] at this)
                have HGR : Hid (∀ w5 v2, (W.alloc (.cells #[.int .i32 x.r, .string x.m, .int .i64 x.h, .int .i64 x.fk, .int .i64 x.fn, .int .i64 x.bk, .int .i64 x.bn, .int .i64 x.fl] 54)).grownBy w5 (Value.slice Ac' q cc).ownBlock → w5.ownsRow C 54 8 v2 (q + 1) (cellsC cur ++ encC x) → w5.cell? ⟨gb, d * 2, none⟩ = some (.slice Ac' q cc) ∧ w5.frozen? ⟨gb, d * 2, none⟩ = false ∧ PS (w5.setCell ⟨gb, d * 2, none⟩ v2) w2.heap.size C (.slice (some ⟨gb, 0, none⟩) (d + 1) cb) D raw (cur ++ [x]) k v2 ∧ Below w2.heap.size w2 (w5.setCell ⟨gb, d * 2, none⟩ v2)) := Lib.hid fun w5 v2 hg h2 => by
                  have hp := HP.out.past (belA (Below.refl W.heap.size W) (.cells #[.int .i32 x.r, .string x.m, .int .i64 x.h, .int .i64 x.fk, .int .i64 x.fn, .int .i64 x.bk, .int .i64 x.bn, .int .i64 x.fl] 54))
                  rw [← HD.out] at hp
                  have h := hp.grow (cur2 := cur ++ [x]) hg (by rw [List.length_append, HQ.out, cellsC_snoc]; exact h2)
                  rw [HD.out] at h
                  exact ⟨h.1, h.2.1, h.2.2.1, h.2.2.2 (belA HBW.out _)⟩
                clear e0 HX HP HBW
                generalize cellsC cur = ol at HOWN HGR
                go_region_law (first
                  | ((refine step_append_own' rfl _ _ 29 rfl C 54 i0 _ 8 72 Try.underlying29 hi0 hz0 hz1 hz2 rfl (by decide) (.slice Ac' q cc) q ol rfl HOWN.out ⟨W.heap.size, 0, none⟩ 1 1 (encC x) rfl rfl (news8' W.drew x _) (encC_one x) (by unfold maxLen; omega) (by omega) (by simp; omega) ?_); intro v2 w6 hown2 hgrow2; obtain ⟨A6, c6, rfl, _⟩ := own_formK hown2; obtain ⟨hc5, hr5, hp5, hb5⟩ := HGR.out w6 _ (grown_drew' hgrow2) hown2; have HP5 := Lib.hid hp5; have HB5 := Lib.hid hb5; clear hown2 hgrow2 hp5 hb5))
                all_goals
                  go_wp2
                  go_roundw
                  case rel => exact ⟨i + 1, d, gb, cb, rfl, by go_num, hlt, by omega, Lib.hid ⟨_, _, _, _, _, _, HLN.out, HD.out, HP5.out⟩, HB5⟩
                  case measure => simp [intOf]; omega
        · obtain rfl : i = n := by omega
          obtain ⟨C, D, raw, cur, k, vc, hla, hD, hps⟩ := HS.out
          have HEQ : Hid (D ++ [⟨cur ++ List.replicate (m - cur.length) CC.zero, k⟩] = splitL m l) := Lib.hid (by
            have := hla
            rw [← HML.out] at this
            rw [layAt_end this, HSP.out])
          have hqm := hla.2.1
          have HD := Lib.hid hD
          have HST2 : Hid (∃ cur' vc, cur'.length ≤ m ∧ cur' = cur ++ List.replicate (cur'.length - cur.length) CC.zero ∧ PS wr w2.heap.size C (.slice (some ⟨gb, 0, none⟩) (d + 1) cb) D raw cur' k vc) := Lib.hid ⟨cur, vc, hqm, by simp, hps⟩
          have hd0 : (0 : Int) ≤ d := by omega
          have hdd : (d : Int) < (d : Int) + 1 := by omega
          clear HS hla hD hps HST HSB HR2 HSP HML hqm
          go_wp2_with fail
          clear hi hd
          go_loopw [123] (fun _ wr => Hid (∃ cur' vc, cur'.length ≤ m ∧ cur' = cur ++ List.replicate (cur'.length - cur.length) CC.zero ∧ PS wr w2.heap.size C (.slice (some ⟨gb, 0, none⟩) (d + 1) cb) D raw cur' k vc) ∧ Hid (Below w2.heap.size w2 wr)) (fun _ w => m - lenV ((w.cell? ⟨gb, d * 2, none⟩).getD undef))
          case atStart => exact ⟨HST2, HB⟩
          case round =>
            obtain ⟨HS, HB'⟩ := hrel
            obtain ⟨cur', vc, hc1, hc2, hps⟩ := HS.out
            obtain ⟨Ac', cc, rfl, _⟩ := hps.form
            obtain ⟨q, hq⟩ : ∃ q, cur'.length = q := ⟨_, rfl⟩
            have HQ := Lib.hid hq
            have HP : Hid (PS wr w2.heap.size C (.slice (some ⟨gb, 0, none⟩) (d + 1) cb) D raw cur' k (.slice Ac' q cc)) := Lib.hid (by rw [hq] at hps; exact hps)
            rw [hq] at hc1 hc2
            have HC2 := Lib.hid hc2
            obtain ⟨g0, cb0, e0, _, hgl, _, k0, k1, kf⟩ := HP.out.slot
            rw [HD.out] at e0 k0 k1 kf
            obtain ⟨rfl, rfl⟩ : gb = g0 ∧ cb = cb0 := by injection e0 with e1 _ e3; injection e1 with e1; injection e1 with e1 _ _; exact ⟨e1, e3⟩
            clear e0 hps hc2 hq HS HST2
            by_cases hqm : q < m
            · have hqd : decide (q < m) = true := decide_eq_true hqm
              have hqi : (q : Int) < m := by omega
              have hCz := HP.out.sz
              have HOWN : Hid ((wr.alloc (.cells #[.int .i32 0, .string ⟨#[]⟩, .int .i64 0, .int .i64 0, .int .i64 0, .int .i64 0, .int .i64 0, .int .i64 0] 54)).ownsRow C 54 8 (.slice Ac' q cc) q (cellsC cur')) := Lib.hid (by have := own_pastK HP.out.cur (belA (Below.refl wr.heap.size wr) (.cells #[.int .i32 0, .string ⟨#[]⟩, .int .i64 0, .int .i64 0, .int .i64 0, .int .i64 0, .int .i64 0, .int .i64 0] 54)); rwa [HQ.out] at this)
              have HGR : Hid (∀ w5 v2, (wr.alloc (.cells #[.int .i32 0, .string ⟨#[]⟩, .int .i64 0, .int .i64 0, .int .i64 0, .int .i64 0, .int .i64 0, .int .i64 0] 54)).grownBy w5 (Value.slice Ac' q cc).ownBlock → w5.ownsRow C 54 8 v2 (q + 1) (cellsC cur' ++ encC CC.zero) → w5.cell? ⟨gb, d * 2, none⟩ = some (.slice Ac' q cc) ∧ w5.frozen? ⟨gb, d * 2, none⟩ = false ∧ (∃ cur' vc, cur'.length ≤ m ∧ cur' = cur ++ List.replicate (cur'.length - cur.length) CC.zero ∧ PS (w5.setCell ⟨gb, d * 2, none⟩ v2) w2.heap.size C (.slice (some ⟨gb, 0, none⟩) (d + 1) cb) D raw cur' k vc) ∧ Below w2.heap.size w2 (w5.setCell ⟨gb, d * 2, none⟩ v2) ∧ (w5.setCell ⟨gb, d * 2, none⟩ v2).cell? ⟨gb, d * 2, none⟩ = some v2) := Lib.hid fun w5 v2 hg h2 => by
                have hp := HP.out.past (belA (Below.refl wr.heap.size wr) (.cells #[.int .i32 0, .string ⟨#[]⟩, .int .i64 0, .int .i64 0, .int .i64 0, .int .i64 0, .int .i64 0, .int .i64 0] 54))
                rw [← HD.out] at hp
                have h := hp.grow (cur2 := cur' ++ [CC.zero]) hg (by rw [List.length_append, HQ.out, cellsC_snoc]; exact h2)
                rw [HD.out] at h
                refine ⟨h.1, h.2.1, ⟨cur' ++ [CC.zero], v2, by rw [List.length_append, HQ.out]; exact hqm, ?_, h.2.2.1⟩, h.2.2.2 (belA HB'.out _), World.cell?_setCell_same _ _ _ h.1⟩
                have hle : cur.length ≤ q := by have := congrArg List.length HC2.out; rw [HQ.out] at this; simp at this; omega
                rw [List.length_append, HQ.out, show q + [CC.zero].length - cur.length = (q - cur.length) + 1 by simp; omega, List.replicate_succ', ← List.append_assoc, ← HC2.out]
              clear HP
              generalize hol : cellsC cur' = ol at HOWN HGR
              clear hol
              have HME : Hid (m - lenV ((wr.cell? ⟨gb, d * 2, none⟩).getD undef) = m - q) := Lib.hid (by rw [k0]; rfl)
              go_wp2_with (at_builtin; go_must (refine wpList_append_own _ rfl _ _ 29 rfl C 54 i0 _ 8 72 Try.underlying29 hi0 hz0 hz1 hz2 rfl (by decide) (.slice Ac' q cc) q ol rfl HOWN.out ⟨wr.heap.size, 0, none⟩ 1 1 (encC CC.zero) rfl rfl (news8' wr CC.zero _) (encC_one CC.zero) (by unfold maxLen; omega) (by omega) (by simp; omega) ?_; intro v2 w6 hown2 hgrow2 _; obtain ⟨A6, c6, rfl, _⟩ := own_formK hown2; obtain ⟨hc5, hr5, hp5, hb5, hv5⟩ := HGR.out w6 _ hgrow2 hown2; have HP5 := Lib.hid hp5; have HB5 := Lib.hid hb5; have HV5 := Lib.hid hv5; clear hown2 hgrow2 hp5 hb5 hv5))
              go_roundw
              case rel => exact ⟨HP5, HB5⟩
              case measure =>
                rw [HME.out, HV5.out]
                show m - (q + 1) < m - q
                omega
            · have hqd : decide (q < m) = false := decide_eq_false hqm
              have HE : Hid (ORW w.heap.size wr (.slice (some ⟨gb, 0, none⟩) (d + 1) cb) (splitL m l) ∧ Below w.heap.size w wr) := Lib.hid (by
                have e : cur' = cur ++ List.replicate (m - cur.length) CC.zero := by
                  rw [show m - cur.length = q - cur.length by omega]
                  exact HC2.out
                have h := HP.out.all
                rw [e, HEQ.out] at h
                exact ⟨h.more HB2.out.size, bel0 HB2.out HB'.out⟩)
              clear HP HQ
              go_wp2
              go_ret
              exact ⟨_, rfl, HE.out.1, HE.out.2⟩
end Go.Proofs.Ytfjgfmeanehpmaa
