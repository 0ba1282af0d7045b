/- The document's Same of events. -/
import Derived.Test.YthjodkoinofkoaaDoorVs
import Derived.Deep.DeepCutAuto
import Derived.Lib.SlBytesConst
namespace Go.Proofs.YthjodkoinofkoaaDoor
open Go.RowKit

deriving instance DecidableEq for PE
def pe0 : PE := ⟨0, 0, 0, 0, [], ⟨#[]⟩, ⟨#[]⟩, false⟩
/-- The slice value '.slice A es.length c' reads as the events es. -/
def EvS (w : World) (A : Option Addr) (es : List PE) : Prop :=
  es ≠ [] → ∃ b off, A = some ⟨b, off, none⟩ ∧ b < w.heap.size ∧ ∀ i, i < es.length → ∃ Ai ci, RGt w Ai (es[i]?.getD pe0).nums ∧
    w.cell? ⟨b, off + i * 8, none⟩ = some (.int .i64 (es[i]?.getD pe0).kind) ∧ w.cell? ⟨b, off + i * 8 + 1, none⟩ = some (.int .i32 (es[i]?.getD pe0).r) ∧ w.cell? ⟨b, off + i * 8 + 2, none⟩ = some (.int .u8 (es[i]?.getD pe0).byte) ∧ w.cell? ⟨b, off + i * 8 + 3, none⟩ = some (.int .u8 (es[i]?.getD pe0).pre) ∧ w.cell? ⟨b, off + i * 8 + 4, none⟩ = some (.slice Ai (es[i]?.getD pe0).nums.length ci) ∧ w.cell? ⟨b, off + i * 8 + 5, none⟩ = some (.string (es[i]?.getD pe0).inter) ∧ w.cell? ⟨b, off + i * 8 + 6, none⟩ = some (.string (es[i]?.getD pe0).text) ∧ w.cell? ⟨b, off + i * 8 + 7, none⟩ = some (.bool (es[i]?.getD pe0).cut)
theorem EvS.past {w w' : World} {A : Option Addr} {es : List PE} (h : EvS w A es) (hb : Below w.heap.size w w') : EvS w' A es := fun hne => by
  obtain ⟨b, off, e, hlt, hc⟩ := h hne
  refine ⟨b, off, e, Nat.lt_of_lt_of_le hlt hb.size, fun i hi => ?_⟩
  obtain ⟨Ai, ci, h0, h1, h2, h3, h4, h5, h6, h7, h8⟩ := hc i hi
  have cc : ∀ k, w'.cell? ⟨b, k, none⟩ = w.cell? ⟨b, k, none⟩ := fun k => hb.cell (p := ⟨b, k, none⟩) hlt
  exact ⟨Ai, ci, h0.kept (NT.below hb), (cc _).trans h1, (cc _).trans h2, (cc _).trans h3, (cc _).trans h4, (cc _).trans h5, (cc _).trans h6, (cc _).trans h7, (cc _).trans h8⟩
theorem RIt.to_RI {w : World} {A : Option Addr} {xs : List Int} (h : RIt w A xs) : RI w w.heap.size A xs := fun hn => by
  obtain ⟨b, off, cur, e, hh, hc⟩ := h hn
  exact ⟨b, off, e, lt_of_block hh, hc⟩
theorem RGt.to_RG {w : World} {A : Option Addr} {L : List (List Int)} (h : RGt w A L) : RG w w.heap.size A L := fun hn => by
  obtain ⟨b, off, cur, e, hh, hc⟩ := h hn
  refine ⟨b, off, e, lt_of_block hh, fun i hi => ?_⟩
  obtain ⟨Ai, ci, h1, h2, h3⟩ := hc i hi
  exact ⟨Ai, ci, h1, h2.to_RI, h3⟩
theorem toList_ne {x y : ByteArray} (h : x ≠ y) : (x.toList == y.toList) = false ∧ (x.toList != y.toList) = true := by
  have hne : x.toList ≠ y.toList := fun e => h (by rw [Lib.toList_data, Lib.toList_data] at e; exact ByteArray.ext (Array.ext' e))
  exact ⟨beq_false_of_ne hne, bne_iff_ne.2 hne⟩
theorem take_snocE (xs : List PE) (k : Nat) (h : k < xs.length) : xs.take (k + 1) = xs.take k ++ [xs[k]?.getD pe0] := by
  rw [List.take_succ_eq_append_getElem h, List.getElem?_eq_getElem h]; rfl
/-- Eight cells of a box. -/
def E8 (W : World) (g : Nat) (v0 v1 v2 v3 v4 v5 v6 v7 : Value) : Prop := W.cell? ⟨g, 0, none⟩ = some v0 ∧ W.cell? ⟨g, 1, none⟩ = some v1 ∧ W.cell? ⟨g, 2, none⟩ = some v2 ∧ W.cell? ⟨g, 3, none⟩ = some v3 ∧ W.cell? ⟨g, 4, none⟩ = some v4 ∧ W.cell? ⟨g, 5, none⟩ = some v5 ∧ W.cell? ⟨g, 6, none⟩ = some v6 ∧ W.cell? ⟨g, 7, none⟩ = some v7
theorem e8_new (W : World) (v0 v1 v2 v3 v4 v5 v6 v7 : Value) (t : TypeId) : E8 (W.alloc (.cells #[v0, v1, v2, v3, v4, v5, v6, v7] t)) W.heap.size v0 v1 v2 v3 v4 v5 v6 v7 := by
  have h := heap_alloc_new W (.cells #[v0, v1, v2, v3, v4, v5, v6, v7] t)
  refine ⟨?_, ?_, ?_, ?_, ?_, ?_, ?_, ?_⟩
  all_goals exact (cell_of_row _ _ _ _ _ _ h).trans rfl
theorem E8.past {W W' : World} {g B : Nat} {v0 v1 v2 v3 v4 v5 v6 v7 : Value} (h : E8 W g v0 v1 v2 v3 v4 v5 v6 v7) (hg : g < B) (hb : Below B W W') : E8 W' g v0 v1 v2 v3 v4 v5 v6 v7 := by
  obtain ⟨h0, h1, h2, h3, h4, h5, h6, h7⟩ := h
  exact ⟨(hb.cell (p := ⟨g, 0, none⟩) hg).trans h0, (hb.cell (p := ⟨g, 1, none⟩) hg).trans h1, (hb.cell (p := ⟨g, 2, none⟩) hg).trans h2, (hb.cell (p := ⟨g, 3, none⟩) hg).trans h3, (hb.cell (p := ⟨g, 4, none⟩) hg).trans h4, (hb.cell (p := ⟨g, 5, none⟩) hg).trans h5, (hb.cell (p := ⟨g, 6, none⟩) hg).trans h6, (hb.cell (p := ⟨g, 7, none⟩) hg).trans h7⟩
theorem e8_one (W : World) (v0 v1 v2 v3 v4 v5 v6 v7 : Value) (t : TypeId) (o : Obj) : E8 ((W.alloc (.cells #[v0, v1, v2, v3, v4, v5, v6, v7] t)).alloc o).drew W.heap.size v0 v1 v2 v3 v4 v5 v6 v7 :=
  (e8_new W v0 v1 v2 v3 v4 v5 v6 v7 t).past (B := W.heap.size + 1) (by omega) (((Below.refl _ _).alloc (by simp) _).drew)
theorem e8_two (W : World) (v0 v1 v2 v3 v4 v5 v6 v7 : Value) (t : TypeId) (o : Obj) : E8 ((W.alloc o).alloc (.cells #[v0, v1, v2, v3, v4, v5, v6, v7] t)).drew (W.heap.size + 1) v0 v1 v2 v3 v4 v5 v6 v7 := by
  have h := e8_new (W.alloc o) v0 v1 v2 v3 v4 v5 v6 v7 t
  rw [show (W.alloc o).heap.size = W.heap.size + 1 by simp] at h
  exact h
set_option maxRecDepth 100000 in
set_option maxHeartbeats 4000000 in
theorem same4_any (A A' : Option Addr) (es es' : List PE) (n n' c c' : Nat) (hn : n = es.length) (hn' : n' = es'.length) (h63 : n ≤ 1000000) (w : World) (hR : EvS w A es) (hR' : EvS w A' es') (hb : ∀ i : Nat, ((es[i]?.getD pe0).nums).length ≤ 1000 ∧ ∀ j : Nat, (((es[i]?.getD pe0).nums)[j]?.getD []).length ≤ 1000) :
    Calls Tryd.prog 13 #[.slice A n c, .slice A' n' c'] w fun e w' => e = .returned (.bool (decide (es = es'))) ∧ Below w.heap.size w w' := by
  by_cases hnn : n = n'
  · have HN := Lib.hid hn
    have HN' := Lib.hid (hnn.trans hn')
    have HR := Lib.hid hR
    have HR' := Lib.hid hR'
    have HB := Lib.hid hb
    subst hnn
    clear hn hn' hR hR' hb
    go_enter Tryd.func13, Tryd.ntmps13
    go_wp2
    go_loopw [5] (fun i wr => ∃ k : Nat, k ≤ n ∧ i = .int .i64 k ∧ Hid (es.take k = es'.take k) ∧ Hid (Below w.heap.size w wr)) (fun i _ => n - (intOf i).toNat)
    case atStart => exact ⟨0, Nat.zero_le _, rfl, Lib.hid rfl, Lib.hid (Below.refl _ _)⟩
    case round =>
      obtain ⟨k, hk, rfl, HK, hB⟩ := hrel
      by_cases hlt : k < n
      · obtain ⟨b, off, e, hblt, hc⟩ := HR.out (fun e => by have := HN.out; rw [e] at this; simp at this; omega)
        obtain ⟨b', off', e', hblt', hc'⟩ := HR'.out (fun e => by have := HN'.out; rw [e] at this; simp at this; omega)
        subst e; subst e'
        obtain ⟨A1, c1, g1, x0, x1, x2, x3, x4, x5, x6, x7⟩ := hc k (HN.out ▸ hlt)
        obtain ⟨A2, c2, g2, y0, y1, y2, y3, y4, y5, y6, y7⟩ := hc' k (HN'.out ▸ hlt)
        have HG1 := Lib.hid (g1.kept (NT.below hB.out))
        have HG2 := Lib.hid (g2.kept (NT.below hB.out))
        have cc : ∀ o, wr.cell? ⟨b, o, none⟩ = w.cell? ⟨b, o, none⟩ := fun o => hB.out.cell (p := ⟨b, o, none⟩) hblt
        have cc' : ∀ o, wr.cell? ⟨b', o, none⟩ = w.cell? ⟨b', o, none⟩ := fun o => hB.out.cell (p := ⟨b', o, none⟩) hblt'
        rw [← cc] at x0 x1 x2 x3 x4 x5 x6 x7
        rw [← cc'] at y0 y1 y2 y3 y4 y5 y6 y7
        have hz := hB.out.size
        have hbw : b < wr.heap.size := by omega
        have hbw' : b' < wr.heap.size := by omega
        have hli : (k : Int) < n := by omega
        have HNE : Hid (es[k]?.getD pe0 ≠ es'[k]?.getD pe0 → decide (es = es') = false) := Lib.hid fun h => decide_eq_false fun e => h (by rw [e])
        have HEQ : Hid (es[k]?.getD pe0 = es'[k]?.getD pe0 → es.take (k + 1) = es'.take (k + 1)) := Lib.hid fun h => by rw [take_snocE es k (HN.out ▸ hlt), take_snocE es' k (HN'.out ▸ hlt), HK.out, h]
        have HBK := Lib.hid (HB.out k)
        clear hc hc' HR HR' HN HN' hblt hblt' HK g1 g2 cc cc' hz HB
        generalize es[k]?.getD pe0 = x at *
        generalize es'[k]?.getD pe0 = y at *
        obtain ⟨xk, xr, xb, xp, xn, xi, xt, xc⟩ := x
        obtain ⟨yk, yr, yb, yp, yn, yi, yt, yc⟩ := y
        simp only at x0 x1 x2 x3 x4 x5 x6 x7 y0 y1 y2 y3 y4 y5 y6 y7 HG1 HG2 HBK
        go_upto_region 6 with fail
        go_cut [6, 7] (fun s6 s7 wx => ∃ g h, s6 = .pointer (some ⟨g, 0, none⟩) ∧ s7 = .pointer (some ⟨h, 0, none⟩) ∧ E8 wx g (.int .i64 xk) (.int .i32 xr) (.int .u8 xb) (.int .u8 xp) (.slice A1 xn.length c1) (.string xi) (.string xt) (.bool xc) ∧ E8 wx h (.int .i64 yk) (.int .i32 yr) (.int .u8 yb) (.int .u8 yp) (.slice A2 yn.length c2) (.string yi) (.string yt) (.bool yc) ∧ Below wr.heap.size wr wx)
        case first =>
          go_region_law fail
          all_goals
            go_wp2_with fail
            go_meet
            refine ⟨_, _, rfl, rfl, ?_, ?_, ?_⟩
            · first | exact e8_one _ _ _ _ _ _ _ _ _ _ _ | exact e8_two _ _ _ _ _ _ _ _ _ _ _
            · first | exact e8_one _ _ _ _ _ _ _ _ _ _ _ | exact e8_two _ _ _ _ _ _ _ _ _ _ _
            · exact (((Below.refl _ _).alloc (Nat.le_refl _) _).alloc (by simp) _).drew
        case rest =>
          obtain ⟨g, h, rfl, rfl, ⟨p0, p1, p2, p3, p4, p5, p6, p7⟩, ⟨q0, q1, q2, q3, q4, q5, q6, q7⟩, hW⟩ := hcut
          have HW := Lib.hid ((hB.out.trans (hW.mono hB.out.size)))
          have HS : Hid (Calls Tryd.prog 21 #[.slice A1 xn.length c1, .slice A2 yn.length c2] wc (fun e w' => e = .returned (.bool (sameL xn yn)) ∧ Below w.heap.size w w')) := Lib.hid ((same3_any A1 A2 xn yn xn.length yn.length c1 c2 rfl rfl (by have := HBK.out.1; omega) (fun i => by have := HBK.out.2 i; omega) wc (HG1.out.kept (NT.below hW)).to_RG (HG2.out.kept (NT.below hW)).to_RG).mono fun _ _ hp => ⟨hp.1, HW.out.trans (hp.2.mono HW.out.size)⟩)
          clear x0 x1 x2 x3 x4 x5 x6 x7 y0 y1 y2 y3 y4 y5 y6 y7 hW hB HG1 HG2 HBK hbw hbw'
          by_cases d0 : xk = yk
          rotate_left
          · have HZ := Lib.hid (HNE.out fun e => d0 (by injection e))
            have t0 : (xk == yk) = false := by simpa using d0
            have z0 : (xk != yk) = true := by simpa using d0
            clear HNE HEQ d0 HS
            go_wp2
            go_ret
            exact ⟨by rw [HZ.out]; rfl, by first | exact HW.out | exact HW.out.drew⟩
          subst d0
          have t0 : (xk == xk) = true := by simp
          have z0 : (xk != xk) = false := by simp
          by_cases d1 : xr = yr
          rotate_left
          · have HZ := Lib.hid (HNE.out fun e => d1 (by injection e))
            have t1 : (xr == yr) = false := by simpa using d1
            have z1 : (xr != yr) = true := by simpa using d1
            clear HNE HEQ d1 HS
            go_wp2
            go_ret
            exact ⟨by rw [HZ.out]; rfl, by first | exact HW.out | exact HW.out.drew⟩
          subst d1
          have t1 : (xr == xr) = true := by simp
          have z1 : (xr != xr) = false := by simp
          by_cases d2 : xb = yb
          rotate_left
          · have HZ := Lib.hid (HNE.out fun e => d2 (by injection e))
            have t2 : (xb == yb) = false := by simpa using d2
            have z2 : (xb != yb) = true := by simpa using d2
            clear HNE HEQ d2 HS
            go_wp2
            go_ret
            exact ⟨by rw [HZ.out]; rfl, by first | exact HW.out | exact HW.out.drew⟩
          subst d2
          have t2 : (xb == xb) = true := by simp
          have z2 : (xb != xb) = false := by simp
          by_cases d3 : xp = yp
          rotate_left
          · have HZ := Lib.hid (HNE.out fun e => d3 (by injection e))
            have t3 : (xp == yp) = false := by simpa using d3
            have z3 : (xp != yp) = true := by simpa using d3
            clear HNE HEQ d3 HS
            go_wp2
            go_ret
            exact ⟨by rw [HZ.out]; rfl, by first | exact HW.out | exact HW.out.drew⟩
          subst d3
          have t3 : (xp == xp) = true := by simp
          have z3 : (xp != xp) = false := by simp
          by_cases d4 : xi = yi
          rotate_left
          · have HZ := Lib.hid (HNE.out fun e => d4 (by injection e))
            have t4 := (toList_ne d4).1
            have z4 := (toList_ne d4).2
            clear HNE HEQ d4 HS
            go_wp2
            go_ret
            exact ⟨by rw [HZ.out]; rfl, by first | exact HW.out | exact HW.out.drew⟩
          subst d4
          have t4 : (xi.toList == xi.toList) = true := by simp
          have z4 : (xi.toList != xi.toList) = false := by simp
          by_cases d5 : xt = yt
          rotate_left
          · have HZ := Lib.hid (HNE.out fun e => d5 (by injection e))
            have t5 := (toList_ne d5).1
            have z5 := (toList_ne d5).2
            clear HNE HEQ d5 HS
            go_wp2
            go_ret
            exact ⟨by rw [HZ.out]; rfl, by first | exact HW.out | exact HW.out.drew⟩
          subst d5
          have t5 : (xt.toList == xt.toList) = true := by simp
          have z5 : (xt.toList != xt.toList) = false := by simp
          by_cases d6 : xc = yc
          rotate_left
          · have HZ := Lib.hid (HNE.out fun e => d6 (by injection e))
            have t6 : (xc == yc) = false := by simpa using d6
            have z6 : (xc != yc) = true := by simpa using d6
            clear HNE HEQ d6 HS
            go_wp2
            go_ret
            exact ⟨by rw [HZ.out]; rfl, by first | exact HW.out | exact HW.out.drew⟩
          subst d6
          have t6 : (xc == xc) = true := by simp
          have z6 : (xc != xc) = false := by simp
          cases hsl : sameL xn yn with
          | true =>
            have he : xn = yn := of_decide_eq_true hsl
            have HZ := Lib.hid (HEQ.out (by rw [he]))
            rw [hsl] at HS
            clear HNE HEQ he hsl
            go_wp2_with (go_at_call 21; (with_reducible refine HS.out.mono ?_); rintro e w2 ⟨rfl, hp⟩; have HP := Lib.hid hp; clear hp)
            go_roundw
            case rel => exact ⟨k + 1, hlt, by go_num, HZ, HP⟩
            case measure => simp [intOf]; omega
          | false =>
            have he : xn ≠ yn := of_decide_eq_false hsl
            have HZ := Lib.hid (HNE.out fun e => he (by injection e))
            rw [hsl] at HS
            clear HNE HEQ he hsl
            go_wp2_with (go_at_call 21; (with_reducible refine HS.out.mono ?_); rintro e w2 ⟨rfl, hp⟩; have HP := Lib.hid hp; clear hp)
            go_ret
            exact ⟨by rw [HZ.out]; rfl, HP.out⟩
      · have : k = n := by omega
        subst this
        have HZ : Hid (es = es') := Lib.hid (by
          have h := HK.out
          rwa [List.take_of_length_le (by rw [← HN.out]; exact Nat.le_refl _), List.take_of_length_le (by rw [← HN'.out]; exact Nat.le_refl _)] at h)
        clear HK HR HR' HN HN' HB
        go_wp2
        go_ret
        exact ⟨by rw [decide_eq_true HZ.out]; rfl, hB.out⟩
  · have HZ : Hid (decide (es = es') = false) := Lib.hid (decide_eq_false fun e => hnn (by rw [hn, hn', e]))
    have hnb : ((n : Int) == n') = false := by simp; omega
    have hnc : ((n : Int) != n') = true := by simp; omega
    clear hn hn' hR hR' hnn hb
    go_enter Tryd.func13, Tryd.ntmps13
    go_wp2
    go_ret
    exact ⟨by rw [HZ.out]; rfl, Below.refl _ _⟩

end Go.Proofs.YthjodkoinofkoaaDoor

namespace Go.Proofs.YthjodkoinofkoaaDoor
open Go.RowKit

theorem EvL.at {w : World} : ∀ (es : List PE) (cs : List Value), EvL w es cs → ∀ i, i < es.length → ∃ e, EOK w e (es[i]?.getD pe0) ∧ ∀ j, j < 8 → cs[i * 8 + j]? = e.cells[j]?
  | [], _, _, i, hi => by cases hi
  | p :: ps, cs, ⟨e, cs', h1, h2, h3⟩, i, hi => by
    subst h1
    have hl : e.cells.length = 8 := rfl
    match i, hi with
    | 0, _ => exact ⟨e, h2, fun j hj => by rw [Nat.zero_mul, Nat.zero_add, List.getElem?_append_left (by omega)]⟩
    | i + 1, hi =>
      obtain ⟨e', h4, h5⟩ := EvL.at ps cs' h3 i (by simpa using hi)
      refine ⟨e', by simpa using h4, fun j hj => ?_⟩
      rw [List.getElem?_append_right (by omega), ← h5 j hj, hl, show (i + 1) * 8 + j - 8 = i * 8 + j by omega]
theorem EvS.of_cells {w : World} {b off : Nat} {es : List PE} {cs : List Value} (hb : b < w.heap.size) (hl : EvL w es cs) (hc : ∀ k, k < es.length * 8 → w.cell? ⟨b, off + k, none⟩ = cs[k]?) : EvS w (some ⟨b, off, none⟩) es := fun _ => by
  refine ⟨b, off, rfl, hb, fun i hi => ?_⟩
  obtain ⟨e, ⟨h1, h2, h3, h4, h5, h6, h7, A, c, h8, h9⟩, hj⟩ := EvL.at es cs hl i hi
  have g : ∀ j, j < 8 → w.cell? ⟨b, off + i * 8 + j, none⟩ = e.cells[j]? := fun j hj8 => by rw [Nat.add_assoc, hc _ (by omega), hj j hj8]
  refine ⟨A, c, h9, (g 0 (by omega)).trans ?_, (g 1 (by omega)).trans ?_, (g 2 (by omega)).trans ?_, (g 3 (by omega)).trans ?_, (g 4 (by omega)).trans ?_, (g 5 (by omega)).trans ?_, (g 6 (by omega)).trans ?_, (g 7 (by omega)).trans ?_⟩
  · rw [← h1]; rfl
  · rw [← h2]; rfl
  · rw [← h3]; rfl
  · rw [← h4]; rfl
  · rw [← h8]; rfl
  · rw [← h5]; rfl
  · rw [← h6]; rfl
  · rw [← h7]; rfl
theorem EvS.of_own {w : World} {B n c : Nat} {A : Option Addr} {es : List PE} {cs : List Value} (h : w.ownsRow B 41 8 (.slice A n c) n cs) (hn : n = es.length) (hl : EvL w es cs) : EvS w A es := fun hne => by
  obtain ⟨A', c', e, hA⟩ := own_form h
  injection e with e1 _ _
  subst e1
  obtain ⟨g, rfl⟩ := hA (by rw [hn]; exact List.length_pos_iff.2 hne)
  exact EvS.of_cells (b := g) (off := 0) (own_lt' h rfl).2 hl (fun k hk => by rw [Nat.zero_add]; exact h.cellAt k (by omega)) hne
/-- The tables. -/
structure GW (w : World) : Prop where
  ut : UT w
  ml : ML w
theorem GW.gt {w : World} (h : GW w) : GT w w.heap.size := ⟨h.ut, h.ut.2.1, h.ut.2.2, h.ml, h.ml.elim fun _ hm => block_lt_of_cell hm⟩
theorem GW.below {w w' : World} (h : GW w) (hb : Below w.heap.size w w') : GW w' := ⟨h.ut.below hb, h.ml.imp fun _ hm => (hb.cell (p := ⟨2, 0, none⟩) (block_lt_of_cell hm)).trans hm⟩
theorem GW.at {w w' : World} (h : GW w) (hb : Below w.heap.size w w') : GT w' w.heap.size := ⟨(h.below hb).ut, h.ut.2.1, h.ut.2.2, (h.below hb).ml, h.ml.elim fun _ hm => block_lt_of_cell hm⟩
def awB : List UInt8 := [27, 91, 49, 59, 51, 49, 109, 27, 93, 48, 59, 97, 7]
def awE : List PE := [⟨3, 0, 109, 0, [[1], [31]], ⟨#[]⟩, ⟨#[]⟩, false⟩, ⟨4, 0, 0, 0, [], ⟨#[]⟩, ⟨#[48, 59, 97]⟩, false⟩]
theorem aw_plain : (takesP (newP 99) awB).2 = awE := by decide
def awW (W : World) : World := W.alloc (.cells #[.int .u8 27, .int .u8 91, .int .u8 49, .int .u8 59, .int .u8 51, .int .u8 49, .int .u8 109, .int .u8 27, .int .u8 93, .int .u8 48, .int .u8 59, .int .u8 97, .int .u8 7] 5 (13, 14))
theorem aw_all {w w2 : World} (hG : GW w) (hm : MI w2 w.heap.size (newP 99) [] (newA 99)) (hb : Below w.heap.size w w2) : Calls Tryd.prog 14 #[.pointer (some ⟨w.heap.size, 0, none⟩), .slice (some ⟨w2.heap.size, 0, none⟩) 13 13] (awW w2) fun e w' => ∃ A c, e = .returned (.slice A 2 c) ∧ EvS w' A awE ∧ Below w.heap.size w w' := by
  have ha : Below w2.heap.size w2 (awW w2) := (Below.refl _ _).alloc (Nat.le_refl _) _
  have hw : Below w.heap.size w (awW w2) := hb.trans (ha.mono hb.size)
  obtain ⟨hm2, hf2⟩ := hm.past ha
  refine (all_mi hm2 (hG.at hw) (GQ.new (by omega)) (some ⟨w2.heap.size, 0, none⟩) awB 13 13 rfl (fun _ => ⟨w2.heap.size, 0, rfl, by simp [awW], fun hmu => by have := (hm.low hmu).2; omega, fun k hk => ?_⟩) (by omega)).mono fun e w' hp => ?_
  · rw [Nat.zero_add]
    refine (cell_of_row _ _ k _ _ _ (heap_alloc_new w2 _)).trans ?_
    have hk' : k < 13 := hk
    rcases (by omega : k = 0 ∨ k = 1 ∨ k = 2 ∨ k = 3 ∨ k = 4 ∨ k = 5 ∨ k = 6 ∨ k = 7 ∨ k = 8 ∨ k = 9 ∨ k = 10 ∨ k = 11 ∨ k = 12) with rfl | rfl | rfl | rfl | rfl | rfl | rfl | rfl | rfl | rfl | rfl | rfl | rfl
    all_goals rfl
  · obtain ⟨v, he, cs, a', A, c, hv, hm3, hf, ho, hl, _⟩ := hp
    rw [aw_plain] at hv ho hl
    subst hv
    exact ⟨A, c, he, EvS.of_own ho rfl hl, hw.trans (hf.below hm2)⟩
def aw4 (W : World) : World := (((W.alloc (.cells #[.int .i64 1] 3)).alloc (.cells #[.int .i64 31] 3)).alloc (.cells #[.slice (some ⟨W.heap.size, 0, none⟩) 1 1, .slice (some ⟨W.heap.size + 1, 0, none⟩) 1 1] 48)).alloc (.cells #[.int .i64 3, .int .i32 0, .int .u8 109, .int .u8 0, .slice (some ⟨W.heap.size + 2, 0, none⟩) 2 2, .string ⟨#[]⟩, .string ⟨#[]⟩, .bool false, .int .i64 4, .int .i32 0, .int .u8 0, .int .u8 0, .slice none 0 0, .string ⟨#[]⟩, .string ⟨#[48, 59, 97]⟩, .bool false] 41)
theorem aw4_ev (W : World) : EvS (aw4 W) (some ⟨W.heap.size + 3, 0, none⟩) awE := by
  have hz : (aw4 W).heap.size = W.heap.size + 4 := by unfold aw4; simp
  have h3 : (aw4 W).heap[W.heap.size + 3]? = some (.cells #[.int .i64 3, .int .i32 0, .int .u8 109, .int .u8 0, .slice (some ⟨W.heap.size + 2, 0, none⟩) 2 2, .string ⟨#[]⟩, .string ⟨#[]⟩, .bool false, .int .i64 4, .int .i32 0, .int .u8 0, .int .u8 0, .slice none 0 0, .string ⟨#[]⟩, .string ⟨#[48, 59, 97]⟩, .bool false] 41 (0, 0)) := by
    have := heap_alloc_new (((W.alloc (.cells #[.int .i64 1] 3)).alloc (.cells #[.int .i64 31] 3)).alloc (.cells #[.slice (some ⟨W.heap.size, 0, none⟩) 1 1, .slice (some ⟨W.heap.size + 1, 0, none⟩) 1 1] 48)) (.cells #[.int .i64 3, .int .i32 0, .int .u8 109, .int .u8 0, .slice (some ⟨W.heap.size + 2, 0, none⟩) 2 2, .string ⟨#[]⟩, .string ⟨#[]⟩, .bool false, .int .i64 4, .int .i32 0, .int .u8 0, .int .u8 0, .slice none 0 0, .string ⟨#[]⟩, .string ⟨#[48, 59, 97]⟩, .bool false] 41)
    rw [show (((W.alloc (.cells #[.int .i64 1] 3)).alloc (.cells #[.int .i64 31] 3)).alloc (.cells #[.slice (some ⟨W.heap.size, 0, none⟩) 1 1, .slice (some ⟨W.heap.size + 1, 0, none⟩) 1 1] 48)).heap.size = W.heap.size + 3 by simp] at this
    exact this
  have h2 : (aw4 W).heap[W.heap.size + 2]? = some (.cells #[.slice (some ⟨W.heap.size, 0, none⟩) 1 1, .slice (some ⟨W.heap.size + 1, 0, none⟩) 1 1] 48 (0, 0)) := by
    have := heap_alloc_new ((W.alloc (.cells #[.int .i64 1] 3)).alloc (.cells #[.int .i64 31] 3)) (.cells #[.slice (some ⟨W.heap.size, 0, none⟩) 1 1, .slice (some ⟨W.heap.size + 1, 0, none⟩) 1 1] 48)
    rw [show ((W.alloc (.cells #[.int .i64 1] 3)).alloc (.cells #[.int .i64 31] 3)).heap.size = W.heap.size + 2 by simp] at this
    exact alloc_block this
  have h1 : (aw4 W).heap[W.heap.size + 1]? = some (.cells #[.int .i64 31] 3 (0, 0)) := by
    have := heap_alloc_new (W.alloc (.cells #[.int .i64 1] 3)) (.cells #[.int .i64 31] 3)
    rw [show (W.alloc (.cells #[.int .i64 1] 3)).heap.size = W.heap.size + 1 by simp] at this
    exact alloc_block (alloc_block this)
  have h0 : (aw4 W).heap[W.heap.size]? = some (.cells #[.int .i64 1] 3 (0, 0)) := alloc_block (alloc_block (alloc_block (heap_alloc_new W _)))
  have hr : RGt (aw4 W) (some ⟨W.heap.size + 2, 0, none⟩) [[1], [31]] := fun _ => by
    refine ⟨W.heap.size + 2, 0, _, rfl, h2, fun i hi => ?_⟩
    rw [Nat.zero_add, cell_of_row _ _ _ _ _ _ h2]
    match i, hi with
    | 0, _ => exact ⟨_, 1, rfl, fun _ => ⟨W.heap.size, 0, _, rfl, h0, fun k hk => by
        rw [cell_of_row _ _ _ _ _ _ h0]
        match k, hk with
        | 0, _ => rfl⟩, by simp⟩
    | 1, _ => exact ⟨_, 1, rfl, fun _ => ⟨W.heap.size + 1, 0, _, rfl, h1, fun k hk => by
        rw [cell_of_row _ _ _ _ _ _ h1]
        match k, hk with
        | 0, _ => rfl⟩, by simp⟩
  refine EvS.of_cells (cs := [.int .i64 3, .int .i32 0, .int .u8 109, .int .u8 0, .slice (some ⟨W.heap.size + 2, 0, none⟩) 2 2, .string ⟨#[]⟩, .string ⟨#[]⟩, .bool false, .int .i64 4, .int .i32 0, .int .u8 0, .int .u8 0, .slice none 0 0, .string ⟨#[]⟩, .string ⟨#[48, 59, 97]⟩, .bool false]) (by omega) ⟨⟨3, 0, 109, 0, .slice (some ⟨W.heap.size + 2, 0, none⟩) 2 2, ⟨#[]⟩, ⟨#[]⟩, false⟩, _, rfl, ⟨rfl, rfl, rfl, rfl, rfl, rfl, rfl, _, 2, rfl, hr⟩, ⟨4, 0, 0, 0, .slice none 0 0, ⟨#[]⟩, ⟨#[48, 59, 97]⟩, false⟩, [], rfl, ⟨rfl, rfl, rfl, rfl, rfl, rfl, rfl, none, 0, rfl, rg_nil _⟩, rfl⟩ fun k hk => ?_
  rw [Nat.zero_add, cell_of_row _ _ _ _ _ _ h3]
  simp
set_option maxRecDepth 100000 in
set_option maxHeartbeats 4000000 in
theorem awake_any (w : World) (hG : GW w) : Calls Tryd.prog 10 #[] w fun e w' => e = .returned (.bool true) ∧ Below w.heap.size w w' := by
  have HN : Hid (Calls Tryd.prog 19 #[.int .i64 99] w fun e w' => e = .returned (.tuple #[.pointer (some ⟨w.heap.size, 0, none⟩), .int .i64 0]) ∧ MI w' w.heap.size (newP 99) [] (newA 99) ∧ Below w.heap.size w w') := Lib.hid (new_any 99 (by omega) (by omega) w)
  have HA : Hid (∀ w2, MI w2 w.heap.size (newP 99) [] (newA 99) → Below w.heap.size w w2 → Calls Tryd.prog 14 #[.pointer (some ⟨w.heap.size, 0, none⟩), .slice (some ⟨w2.heap.size, 0, none⟩) 13 13] (awW w2) fun e w' => ∃ A c, e = .returned (.slice A 2 c) ∧ EvS w' A awE ∧ Below w.heap.size w w') := Lib.hid fun w2 hm hb => aw_all hG hm hb
  have HS : Hid (∀ W A c, EvS W A awE → Below w.heap.size w W → Calls Tryd.prog 13 #[.slice A 2 c, .slice (some ⟨W.heap.size + 3, 0, none⟩) 2 2] (aw4 W) fun e w' => e = .returned (.bool true) ∧ Below w.heap.size w w') := Lib.hid fun W A c h hW => by
    have hb : Below W.heap.size W (aw4 W) := belA (belA (belA (belA (Below.refl _ _) _) _) _) _
    refine (same4_any A (some ⟨W.heap.size + 3, 0, none⟩) awE awE 2 2 c 2 rfl rfl (by omega) (aw4 W) (h.past hb) (aw4_ev W) (fun i => ?_)).mono fun e w' hp => ⟨by rw [hp.1]; rfl, (hW.trans (hb.mono hW.size)).trans (hp.2.mono (Nat.le_trans hW.size hb.size))⟩
    match i with
    | 0 => exact ⟨by decide, fun j => by match j with | 0 => decide | 1 => decide | k + 2 => simp [awE]⟩
    | 1 => exact ⟨by decide, fun j => by simp [awE]⟩
    | k + 2 => exact ⟨by simp [awE, pe0], fun j => by simp [awE, pe0]⟩
  unfold awW at HA
  unfold aw4 at HS
  clear hG
  have kc := fun (w : World) (C : Array Value) (n c : Nat) => Lib.run_convert_bytes_const (P := Tryd.prog) w 22 5 C n c Tryd.underlying22 Tryd.underlying5
  go_enter Tryd.func10, Tryd.ntmps10
  go_wp2_with (first
    | (go_at_call 19; (with_reducible refine HN.out.mono ?_); rintro e w2 ⟨rfl, hm2, hb2⟩; have HM2 := Lib.hid hm2; have HB2 := Lib.hid hb2; clear hm2 hb2)
    | (go_at_call 14; (with_reducible refine (HA.out _ HM2.out HB2.out).mono ?_); rintro e w3 ⟨A3, c3, rfl, hv3, hb3⟩; have HV3 := Lib.hid hv3; have HB3 := Lib.hid hb3; clear hv3 hb3)
    | (go_at_call 13; (with_reducible refine (HS.out _ _ _ HV3.out HB3.out).mono ?_); rintro e w4 ⟨rfl, hb4⟩; have HB4 := Lib.hid hb4; clear hb4))
  go_ret
  exact ⟨rfl, HB4.out⟩

end Go.Proofs.YthjodkoinofkoaaDoor

namespace Go.Proofs.YthjodkoinofkoaaDoor
open Go.RowKit

set_option maxRecDepth 100000 in
set_option maxHeartbeats 8000000 in
theorem parseNone_law (m z : Int) (w : World) (hG : GW w) : Calls Tryd.prog 9 #[.int .i64 m, .int .u8 z] w fun e w' => e = .returned (.bool true) ∧ Below w.heap.size w w' := by
  have H1 := Lib.hid (fun W => step_none z W)
  have H2 := Lib.hid (fun v W => all_none v W)
  have H3 := Lib.hid (fun W => state_none W)
  have H4 := Lib.hid (fun W => held_none W)
  have H5 := Lib.hid (fun W => copy_none W)
  have H6 : Hid (∀ W, Below w.heap.size w W → Calls Tryd.prog 10 #[] W fun e w' => e = .returned (.bool true) ∧ Below w.heap.size w w') := Lib.hid fun W hW => (awake_any W (hG.below hW)).mono fun _ _ hp => ⟨hp.1, hW.trans (hp.2.mono hW.size)⟩
  by_cases h : 1 ≤ m ∧ m ≤ 65536
  · obtain ⟨k, rfl⟩ : ∃ k : Nat, m = k := ⟨m.toNat, by omega⟩
    have hk : 1 ≤ k ∧ k ≤ 65536 := by omega
    have HN : Hid (Calls Tryd.prog 19 #[.int .i64 k] w fun e w' => e = .returned (.tuple #[.pointer (some ⟨w.heap.size, 0, none⟩), .int .i64 0]) ∧ MI w' w.heap.size (newP k) [] (newA k) ∧ Below w.heap.size w w') := Lib.hid (new_any k hk.1 hk.2 w)
    have HS : Hid (∀ W, MI W w.heap.size (newP k) [] (newA k) → Calls Tryd.prog 15 #[.pointer (some ⟨w.heap.size, 0, none⟩)] W fun e w' => e = .returned (.int .i64 0) ∧ MI w' w.heap.size (newP k) [] (newA k) ∧ Below W.heap.size W w') := Lib.hid fun W hm => (state_mi hm).mono fun _ _ hp => ⟨hp.1, (hm.past hp.2).1, hp.2⟩
    have HH : Hid (∀ W, MI W w.heap.size (newP k) [] (newA k) → Calls Tryd.prog 16 #[.pointer (some ⟨w.heap.size, 0, none⟩)] W fun e w' => e = .returned (.int .i64 0) ∧ Below W.heap.size W w') := Lib.hid fun W hm => (held_mi hm (GQ.new hk.2).gp (by simp [newP]) (by simp [newP])).mono fun _ _ hp => ⟨hp.1, hp.2⟩
    have e1 : decide ((k : Int) < 1) = false := decide_eq_false (by omega)
    have e2 : decide ((k : Int) > 65536) = false := decide_eq_false (by omega)
    have e3 : ¬ (65536 : Int) < k := by omega
    have e4 : ¬ (k : Int) < 1 := by omega
    clear hG h
    go_enter Tryd.func9, Tryd.ntmps9
    go_wp2_with (first
      | (go_at_call 19; (with_reducible refine HN.out.mono ?_); rintro e w1 ⟨rfl, hm1, hb1⟩; have HM1 := Lib.hid hm1; have HB1 := Lib.hid hb1; clear hm1 hb1)
      | (go_at_call 15; (with_reducible refine (HS.out _ HM1.out).mono ?_); rintro e w2 ⟨rfl, hm2, hb2⟩; have HM2 := Lib.hid hm2; have HB2 := Lib.hid (bel0 HB1.out hb2); clear hm2 hb2)
      | (go_at_call 16; (with_reducible refine (HH.out _ HM2.out).mono ?_); rintro e w3 ⟨rfl, hb3⟩; have HB3 := Lib.hid (bel0 HB2.out hb3); clear hb3)
      | (go_at_call 17; (with_reducible refine (H1.out _).mono ?_); rintro e w4 ⟨rfl, hb4⟩; have HB4 := Lib.hid (bel0 HB3.out hb4); clear hb4)
      | (go_at_call 14; (with_reducible refine (H2.out _ _).mono ?_); rintro e w5 ⟨rfl, hb5⟩; have HB5 := Lib.hid (bel0 (belA HB4.out _) hb5); clear hb5)
      | (go_at_call 15; (with_reducible refine (H3.out _).mono ?_); rintro e w6 ⟨rfl, hb6⟩; have HB6 := Lib.hid (bel0 HB5.out hb6); clear hb6)
      | (go_at_call 16; (with_reducible refine (H4.out _).mono ?_); rintro e w7 ⟨rfl, hb7⟩; have HB7 := Lib.hid (bel0 HB6.out hb7); clear hb7)
      | (go_at_call 18; (with_reducible refine (H5.out _).mono ?_); rintro e w8 ⟨rfl, hb8⟩; have HB8 := Lib.hid (bel0 HB7.out hb8); clear hb8)
      | (go_at_call 10; (with_reducible refine (H6.out _ HB8.out).mono ?_); rintro e w9 ⟨rfl, hb9⟩; have HB9 := Lib.hid hb9; clear hb9))
    go_ret
    exact ⟨rfl, HB9.out⟩
  · have HN : Hid (Calls Tryd.prog 19 #[.int .i64 m] w fun e w' => e = .returned (.tuple #[.pointer none, .int .i64 1]) ∧ Below w.heap.size w w') := Lib.hid (new_bad m (by omega) w)
    clear hG
    by_cases h1 : m < 1
    · have e1 : decide (m < 1) = true := decide_eq_true h1
      clear h
      go_enter Tryd.func9, Tryd.ntmps9
      go_wp2_with (first
        | (go_at_call 19; (with_reducible refine HN.out.mono ?_); rintro e w1 ⟨rfl, hb1⟩; have HB1 := Lib.hid hb1; clear hb1)
        | (go_at_call 17; (with_reducible refine (H1.out _).mono ?_); rintro e w4 ⟨rfl, hb4⟩; have HB4 := Lib.hid (bel0 HB1.out hb4); clear hb4)
        | (go_at_call 14; (with_reducible refine (H2.out _ _).mono ?_); rintro e w5 ⟨rfl, hb5⟩; have HB5 := Lib.hid (bel0 (belA HB4.out _) hb5); clear hb5)
        | (go_at_call 15; (with_reducible refine (H3.out _).mono ?_); rintro e w6 ⟨rfl, hb6⟩; have HB6 := Lib.hid (bel0 HB5.out hb6); clear hb6)
        | (go_at_call 16; (with_reducible refine (H4.out _).mono ?_); rintro e w7 ⟨rfl, hb7⟩; have HB7 := Lib.hid (bel0 HB6.out hb7); clear hb7)
        | (go_at_call 18; (with_reducible refine (H5.out _).mono ?_); rintro e w8 ⟨rfl, hb8⟩; have HB8 := Lib.hid (bel0 HB7.out hb8); clear hb8)
        | (go_at_call 10; (with_reducible refine (H6.out _ HB8.out).mono ?_); rintro e w9 ⟨rfl, hb9⟩; have HB9 := Lib.hid hb9; clear hb9))
      go_ret
      exact ⟨rfl, HB9.out⟩
    · have e1 : decide (m < 1) = false := decide_eq_false h1
      have e2 : decide (m > 65536) = true := decide_eq_true (by omega)
      have e3 : (65536 : Int) < m := by omega
      clear h
      go_enter Tryd.func9, Tryd.ntmps9
      go_wp2_with (first
        | (go_at_call 19; (with_reducible refine HN.out.mono ?_); rintro e w1 ⟨rfl, hb1⟩; have HB1 := Lib.hid hb1; clear hb1)
        | (go_at_call 17; (with_reducible refine (H1.out _).mono ?_); rintro e w4 ⟨rfl, hb4⟩; have HB4 := Lib.hid (bel0 HB1.out hb4); clear hb4)
        | (go_at_call 14; (with_reducible refine (H2.out _ _).mono ?_); rintro e w5 ⟨rfl, hb5⟩; have HB5 := Lib.hid (bel0 (belA HB4.out _) hb5); clear hb5)
        | (go_at_call 15; (with_reducible refine (H3.out _).mono ?_); rintro e w6 ⟨rfl, hb6⟩; have HB6 := Lib.hid (bel0 HB5.out hb6); clear hb6)
        | (go_at_call 16; (with_reducible refine (H4.out _).mono ?_); rintro e w7 ⟨rfl, hb7⟩; have HB7 := Lib.hid (bel0 HB6.out hb7); clear hb7)
        | (go_at_call 18; (with_reducible refine (H5.out _).mono ?_); rintro e w8 ⟨rfl, hb8⟩; have HB8 := Lib.hid (bel0 HB7.out hb8); clear hb8)
        | (go_at_call 10; (with_reducible refine (H6.out _ HB8.out).mono ?_); rintro e w9 ⟨rfl, hb9⟩; have HB9 := Lib.hid hb9; clear hb9))
      go_ret
      exact ⟨rfl, HB9.out⟩

end Go.Proofs.YthjodkoinofkoaaDoor
