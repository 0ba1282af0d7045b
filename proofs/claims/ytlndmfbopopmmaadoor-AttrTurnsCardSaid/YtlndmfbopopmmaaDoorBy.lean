/- The walk of the law AttrTurns. -/
import Derived.Test.YtlndmfbopopmmaaDoorBu
import Derived.Test.YtlndmfbopopmmaaDoorBe
namespace Go.Proofs.YtlndmfbopopmmaaDoor
open Go.RowKit

theorem at_step {w w3 W W' : World} {v0 v1 v2 v3 v4 : Value} (h : ((W.cell? ⟨w.heap.size, 0, none⟩ = some v0 ∧ W.cell? ⟨w.heap.size, 1, none⟩ = some v1 ∧ W.cell? ⟨w.heap.size, 2, none⟩ = some v2 ∧ W.cell? ⟨w.heap.size, 3, none⟩ = some v3 ∧ W.cell? ⟨w.heap.size, 4, none⟩ = some v4) ∧ w.heap.size < W.heap.size ∧ Below w.heap.size w W) ∧ Below w3.heap.size w3 W) (hb : Below W.heap.size W W') :
    ((W'.cell? ⟨w.heap.size, 0, none⟩ = some v0 ∧ W'.cell? ⟨w.heap.size, 1, none⟩ = some v1 ∧ W'.cell? ⟨w.heap.size, 2, none⟩ = some v2 ∧ W'.cell? ⟨w.heap.size, 3, none⟩ = some v3 ∧ W'.cell? ⟨w.heap.size, 4, none⟩ = some v4) ∧ w.heap.size < W'.heap.size ∧ Below w.heap.size w W') ∧ Below w3.heap.size w3 W' := ⟨as_step h.1 hb, bel0 h.2 hb⟩
theorem at_held {w W : World} {v0 v1 v2 v3 v4 : Value} (h : (W.cell? ⟨w.heap.size, 0, none⟩ = some v0 ∧ W.cell? ⟨w.heap.size, 1, none⟩ = some v1 ∧ W.cell? ⟨w.heap.size, 2, none⟩ = some v2 ∧ W.cell? ⟨w.heap.size, 3, none⟩ = some v3 ∧ W.cell? ⟨w.heap.size, 4, none⟩ = some v4) ∧ w.heap.size < W.heap.size ∧ Below w.heap.size w W) :
    ((W.drew.cell? ⟨w.heap.size, 0, none⟩ = some v0 ∧ W.drew.cell? ⟨w.heap.size, 1, none⟩ = some v1 ∧ W.drew.cell? ⟨w.heap.size, 2, none⟩ = some v2 ∧ W.drew.cell? ⟨w.heap.size, 3, none⟩ = some v3 ∧ W.drew.cell? ⟨w.heap.size, 4, none⟩ = some v4) ∧ w.heap.size < W.drew.heap.size ∧ Below w.heap.size w W.drew) ∧ Below W.heap.size W W.drew := ⟨as_drew h, (Below.refl _ _).drew⟩
theorem at_below {w w3 W : World} {v0 v1 v2 v3 v4 : Value} (h : ((W.cell? ⟨w.heap.size, 0, none⟩ = some v0 ∧ W.cell? ⟨w.heap.size, 1, none⟩ = some v1 ∧ W.cell? ⟨w.heap.size, 2, none⟩ = some v2 ∧ W.cell? ⟨w.heap.size, 3, none⟩ = some v3 ∧ W.cell? ⟨w.heap.size, 4, none⟩ = some v4) ∧ w.heap.size < W.heap.size ∧ Below w.heap.size w W) ∧ Below w3.heap.size w3 W) : Below w.heap.size w W := h.1.2.2
theorem at_from {w w3 W : World} {v0 v1 v2 v3 v4 : Value} (h : ((W.cell? ⟨w.heap.size, 0, none⟩ = some v0 ∧ W.cell? ⟨w.heap.size, 1, none⟩ = some v1 ∧ W.cell? ⟨w.heap.size, 2, none⟩ = some v2 ∧ W.cell? ⟨w.heap.size, 3, none⟩ = some v3 ∧ W.cell? ⟨w.heap.size, 4, none⟩ = some v4) ∧ w.heap.size < W.heap.size ∧ Below w.heap.size w W) ∧ Below w3.heap.size w3 W) : Below w3.heap.size w3 W := h.2

set_option maxHeartbeats 4000000 in
theorem attrTurns_law (fk fn bk bn fl : Int) (h0 : -9223372036854775808 ≤ fl) (h63 : fl ≤ 9223372036854775807) (A : Option Addr) (l : List (List Int)) (n cp : Nat) (hn : n = l.length) (w : World) (hT : TT w) (hT10 : T10 w.heap.size w) (hR : RG w w.heap.size A l) :
    Calls Tryd.prog 4 #[.agg #[.int .i64 fk, .int .i64 fn, .int .i64 bk, .int .i64 bn, .int .i64 fl], .slice A n cp] w fun e w' => e = .returned (.bool true) ∧ Below w.heap.size w w' := by
  have HA : Hid (∀ W, Below w.heap.size w W → Calls Tryd.prog 10 #[] W fun e w' => e = .returned (.bool true) ∧ Below W.heap.size W w') := Lib.hid fun W hW => awakeA_any W (hT.below hW) (hT10.on hW hW.size)
  have HG : Hid (∀ W, Below w.heap.size w W → Calls Tryd.prog 11 #[.slice A n cp] W fun e w' => e = .returned (.bool (greatB l)) ∧ W = w') := Lib.hid fun W hW => great_any A l n cp hn W ((hR.below hW).more hW.size)
  have HR := Lib.hid (fun W => rightD_any fk fn bk bn fl h63 W)
  rw [← right_same fk fn bk bn fl h0 h63] at HR
  have HB1 := Lib.hid (belA (Below.refl w.heap.size w) (.cells #[.int .i64 fk, .int .i64 fn, .int .i64 bk, .int .i64 bn, .int .i64 fl] 25))
  have hS0 := as_start w (.int .i64 fk) (.int .i64 fn) (.int .i64 bk) (.int .i64 bn) (.int .i64 fl)
  cases hg : greatB l with
  | true =>
    rw [hg] at HG
    clear hT hT10 hR hn hg hS0 h0 h63
    go_enter Tryd.func4, Tryd.ntmps4
    go_wp2_with (first
      | (go_at_call 11; (with_reducible refine (HG.out _ HB1.out).mono ?_); rintro e w' ⟨rfl, rfl⟩)
      | (go_at_call 10; (with_reducible refine (HA.out _ HB1.out).mono ?_); rintro e w2 ⟨rfl, hb2⟩; have HB2 := Lib.hid (bel0 HB1.out hb2); clear hb2))
    go_ret
    exact ⟨rfl, HB2.out⟩
  | false =>
    rw [hg] at HG
    obtain ⟨h60, h20⟩ := great_no hg
    cases hr : rightB fk fn bk bn fl with
    | false =>
      rw [hr] at HR
      clear hT hT10 hR hn hg hS0 h0 h63 hr h60 h20
      go_enter Tryd.func4, Tryd.ntmps4
      go_wp2_with (first
        | (go_at_call 11; (with_reducible refine (HG.out _ HB1.out).mono ?_); rintro e w' ⟨rfl, rfl⟩)
        | (go_at_call 9; (with_reducible refine (HR.out _).mono ?_); rintro e w2 ⟨rfl, hb2⟩; have HB2 := Lib.hid (bel0 HB1.out hb2); clear hb2)
        | (go_at_call 10; (with_reducible refine (HA.out _ HB2.out).mono ?_); rintro e w3 ⟨rfl, hb3⟩; have HB3 := Lib.hid (bel0 HB2.out hb3); clear hb3))
      go_ret
      exact ⟨rfl, HB3.out⟩
    | true =>
      rw [hr] at HR
      have hok : okAT ⟨fk, fn, bk, bn, fl⟩ = true := by rw [← okAT_right ⟨fk, fn, bk, bn, fl⟩ h0 h63]; exact hr
      have hflok : okF fl = true := (okAT_parts.1 hok).2.2
      have hcl : ∀ g ∈ cleanL l, g ≠ [] ∧ g.length ≤ 8 ∧ ∀ z ∈ g, z ≤ 65535 := fun g hg => by
        obtain ⟨a, b, c⟩ := cleanL_all l g hg
        exact ⟨a, b, fun z hz => (c z hz).2⟩
      have hclen := (cleanL_len l).2
      have HC : Hid (∀ W, Below w.heap.size w W → Calls Tryd.prog 12 #[.slice A n cp] W (RowsPost (cleanL l) W)) := Lib.hid fun W hW => refClean_any A l n cp hn (by omega) (fun r hr => by have := h20 r hr; omega) W ((hR.below hW).more hW.size)
      have HTU : Hid (∀ W A c, Below w.heap.size w W → (cleanL l).length ≤ c → RG W W.heap.size A (cleanL l) → Calls Tryd.prog 13 #[.agg #[.int .i64 fk, .int .i64 fn, .int .i64 bk, .int .i64 bn, .int .i64 fl], .slice A (cleanL l).length c] W fun e w' => e = .returned (.agg #[.int .i64 (turnP ⟨fk, fn, bk, bn, fl⟩ (cleanL l)).fk, .int .i64 (turnP ⟨fk, fn, bk, bn, fl⟩ (cleanL l)).fn, .int .i64 (turnP ⟨fk, fn, bk, bn, fl⟩ (cleanL l)).bk, .int .i64 (turnP ⟨fk, fn, bk, bn, fl⟩ (cleanL l)).bn, .int .i64 (turnP ⟨fk, fn, bk, bn, fl⟩ (cleanL l)).fl]) ∧ Below W.heap.size W w') := Lib.hid fun W A c hW hc hr => turn_any ⟨fk, fn, bk, bn, fl⟩ A (cleanL l) _ c rfl hc (fun g hg => (cleanL_all l g hg).1) (clean_hd l) W (hT.below hW) hr
      have HRT : Hid (∀ W A c, RG W W.heap.size A (cleanL l) → Calls Tryd.prog 14 #[.agg #[.int .i64 fk, .int .i64 fn, .int .i64 bk, .int .i64 bn, .int .i64 fl], .slice A (cleanL l).length c] W fun e w' => e = .returned (.agg #[.int .i64 (turnP ⟨fk, fn, bk, bn, fl⟩ (cleanL l)).fk, .int .i64 (turnP ⟨fk, fn, bk, bn, fl⟩ (cleanL l)).fn, .int .i64 (turnP ⟨fk, fn, bk, bn, fl⟩ (cleanL l)).bk, .int .i64 (turnP ⟨fk, fn, bk, bn, fl⟩ (cleanL l)).bn, .int .i64 (turnP ⟨fk, fn, bk, bn, fl⟩ (cleanL l)).fl]) ∧ Below W.heap.size W w') := Lib.hid fun W A c hr => refTurn_any ⟨fk, fn, bk, bn, fl⟩ A (cleanL l) _ c rfl (by omega) hcl hflok W hr
      unfold RowsPost at HC
      generalize turnP ⟨fk, fn, bk, bn, fl⟩ (cleanL l) = x at *
      generalize cleanL l = L at *
      have hgd := Attr_guard
      have hq := fun W => eqAttr W x.fk x.fn x.bk x.bn x.fl x.fk x.fn x.bk x.bn x.fl
      rw [eqAT_self] at hq
      clear hT hT10 hR hn hg h0 h63 hr h60 h20 hok hflok hcl hclen
      have HS0 := Lib.hid hS0
      clear hS0
      go_enter Tryd.func4, Tryd.ntmps4
      go_upto_region 4 with (first
        | (go_at_call 11; (with_reducible refine (HG.out _ HB1.out).mono ?_); rintro e w' ⟨rfl, rfl⟩)
        | (go_at_call 9; (with_reducible refine (HR.out _).mono ?_); rintro e w2 ⟨rfl, hb2⟩; have HS2 := Lib.hid (as_step HS0.out hb2); clear hb2)
        | (go_at_call 12; (with_reducible refine (HC.out _ (as_below HS2.out)).mono ?_); rintro e w3 ⟨A3, c3, rfl, hl3, hr3, hb3⟩; have HR3 := Lib.hid (And.intro hr3 hl3); have HS3 := Lib.hid (as_step HS2.out hb3); clear hb3 hr3 hl3))
      have hSd := at_held HS3.out
      go_region_held3 (fun W => ((W.cell? ⟨w.heap.size, 0, none⟩ = some (.int .i64 fk) ∧ W.cell? ⟨w.heap.size, 1, none⟩ = some (.int .i64 fn) ∧ W.cell? ⟨w.heap.size, 2, none⟩ = some (.int .i64 bk) ∧ W.cell? ⟨w.heap.size, 3, none⟩ = some (.int .i64 bn) ∧ W.cell? ⟨w.heap.size, 4, none⟩ = some (.int .i64 fl)) ∧ w.heap.size < W.heap.size ∧ Below w.heap.size w W) ∧ Below w3.heap.size w3 W)
        (first | exact hSd | exact at_step hSd hb6 | exact at_step (by assumption) hb6)
        (first
          | (go_at_call 13; (with_reducible refine (HTU.out _ _ _ ?_ HR3.out.2 ?_).mono ?_); (first | exact at_below (by assumption) | exact at_below hSd); (first | exact HR3.out.1.past (at_from (by assumption)) | exact HR3.out.1.past (at_from hSd)); rintro e6 w6 ⟨rfl, hb6⟩)
          | (go_at_call 14; (with_reducible refine (HRT.out _ _ _ ?_).mono ?_); (first | exact HR3.out.1.past (at_from (by assumption)) | exact HR3.out.1.past (at_from hSd)); rintro e6 w6 ⟨rfl, hb6⟩)
          | (go_at_call 10; (with_reducible refine (HA.out _ ?_).mono ?_); (first | exact at_below (by assumption) | exact at_below hSd); rintro e6 w6 ⟨rfl, hb6⟩))
      all_goals
        have HBN := Lib.hid (at_below (by assumption))
        go_wp2
        go_ret
        exact ⟨rfl, HBN.out⟩

end Go.Proofs.YtlndmfbopopmmaaDoor
