/- The walks of to, Clean, the document's Right; the law FoldCleans. -/
import Derived.Test.YtnnmliblnmijdaaD4
import Derived.Deep.RegionLaw
namespace Go.Proofs.Ytnnmliblnmijdaa
open Go.RowKit

theorem step_append_own' {P : Program} {ops : Array Oper} {o : Oper} {a : Act} {w : World} {K : Act → World → Prop} {Q : Exit → Act → World → Prop} {E : Prop}
    (hg : o.guard = none) (s x : Operand) (t : TypeId) (hop : o.op = Op.call { callee := Callee.builtin Builtin.append, args := #[s, x], argTypes := #[t, t] })
    (base : Nat) (e : TypeId) (i : TypeInfo) (z : Value) (size bytes : Nat) (h1 : P.underlying t = some (.slice e)) (h2 : P.info? e = some i) (h3 : i.zero = some z) (h4 : i.size = size) (h5 : i.bytes = bytes) (h6 : z.cells.size = size) (h7 : 0 < size)
    (v : Value) (k : Nat) (xs : List Value) (hs : a.eval s = v) (hown : w.ownsRow base e size v k xs) (ad : Addr) (m c : Nat) (news : List Value) (hx : a.eval x = .slice (some ad) m c) (hn : news.length = m * size)
    (hc : ∀ j u, news[j]? = some u → w.cell? (ad.add j) = some u) (h1c : ∀ u ∈ news, u.oneCell' = true) (b1 : k + m ≤ maxLen) (b2 : (k + m) * bytes ≤ 140737488355328) (b3 : base ≤ w.heap.size)
    (hK : ∀ v' w', w'.ownsRow base e size v' (k + m) (xs ++ news) → w.grownBy w' v.ownBlock → (v'.ownBlock = v.ownBlock ∨ v'.ownBlock = some w.heap.size) → K (a.put o.dst v') w') :
    if Region.wanted o (yielded ops a.tmps) = true then Oper.wp P o a w K Q else E := by
  have hw : Region.wanted o (yielded ops a.tmps) = true := by simp [Region.wanted, hg]
  rw [if_pos hw]
  obtain ⟨v', w', hr, g2, g3, g4, g5⟩ := run_append_own_at (P := P) w base t o.type e i z size bytes h1 h2 h3 h4 h5 h6 h7 v k xs hown ad m c news hn hc h1c b1 b2 b3
  unfold Oper.wp execOp
  simp only [hop, resolve, invoke, builtin, Sem.run_bind, Sem.run_pure, Result.andThen_ok, List.map_toArray, List.map_cons, List.map_nil, hs, hx, hr]
  exact hK v' w' g2 g3 g5

set_option maxRecDepth 100000 in
set_option maxHeartbeats 4000000 in
theorem to_any (A : Option Addr) (l : List T3) (n c : Nat) (hn : n = l.length) (hl : n ≤ 1000000) (w : World) (h : RK encF 3 w A l) :
    Calls Try.prog 9 #[.slice A n c] w fun e w' => ∃ A' c', e = .returned (.slice A' n c') ∧ RK encF 3 w' A' l ∧ Below w.heap.size w w' := by
  obtain ⟨i0, hi0, hz0, hz1, hz2⟩ := info_parts infoFold
  have HR := Lib.hid h
  have HN := Lib.hid hn
  clear h hn
  go_enter Try.func9, Try.ntmps9
  go_wp2
  go_loopg [3, 4] n (fun gh s3 s4 wx => ∃ (k : Nat) (A1 : Option Addr) (c1 : Nat), k + gh = n ∧ s4 = .int .i64 k ∧ s3 = .slice A1 k c1 ∧ w.heap.size ≤ wx.heap.size ∧ Hid (wx.ownsRow w.heap.size 48 3 (.slice A1 k c1) k (rowsV encF (l.take k))) ∧ Hid (Below w.heap.size w wx))
  case atStart => exact ⟨0, none, 0, by omega, rfl, rfl, Nat.le_refl _, Lib.hid (World.ownsRow_nil _ _ _ _), Lib.hid (Below.refl _ _)⟩
  case round =>
    obtain ⟨k, A1, c1, hk, rfl, rfl, hs, HO, HB⟩ := hrel
    cases gk with
    | zero =>
      obtain rfl : n = k := by omega
      have HE : Hid (RK encF 3 wr A1 l) := Lib.hid (by
        have ho := HO.out
        rw [List.take_of_length_le (by rw [← HN.out]; exact Nat.le_refl _)] at ho
        exact RK.of_own encF_len ho HN.out)
      clear HO
      go_wp2
      go_ret
      exact ⟨A1, c1, rfl, HE.out, HB.out⟩
    | succ gh =>
      have hlt : k < n := by omega
      have hki : (k : Int) < n := by omega
      obtain ⟨bb, off, rfl, hG⟩ := HR.out.fd (fun e => by have := HN.out; rw [e] at this; simp at this; omega)
      obtain ⟨g0, gA⟩ := hG _ HB.out
      obtain ⟨x0, x1, x2⟩ := gA k (HN.out ▸ hlt)
      have HTK : Hid (rowsV encF (l.take k) ++ encF (Nth l k) = rowsV encF (l.take (k + 1))) := Lib.hid (by
        rw [take_snocT l k (HN.out ▸ hlt), rowsV_app]
        simp [rowsV])
      clear hG gA
      generalize Nth l k = x at *
      obtain ⟨xa, xb, xc⟩ := x
      simp only at x0 x1 x2
      have HONE := Lib.hid (encF_one (xa, xb, xc))
      have HL3 := Lib.hid (encF_len (xa, xb, xc))
      have HN3 : Hid (∀ (W : World) t, ∀ (i : Nat) (u : Value), (encF (xa, xb, xc))[i]? = some u → (W.alloc (.cells #[.int .i64 xa, .int .i64 xb, .int .u64 xc] t)).cell? ((⟨W.heap.size, 0, none⟩ : Addr).add i) = some u) := Lib.hid fun W t => news3 W _ _ rfl t
      generalize encF (xa, xb, xc) = nw at *
      obtain ⟨os, hos⟩ : ∃ os, os = rowsV encF (l.take k) := ⟨_, rfl⟩
      rw [← hos] at HO HTK
      clear hos
      have HOD : Hid (wr.drew.ownsRow w.heap.size 48 3 (.slice A1 k c1) k os) := Lib.hid HO.out
      have HBD := Lib.hid HB.out.drew
      have hsd : w.heap.size ≤ wr.drew.heap.size := hs
      go_wp2
      go_region_law ((refine step_append_own' rfl _ _ 24 rfl w.heap.size 48 i0 _ 3 24 Try.underlying24 hi0 hz0 hz1 hz2 rfl (by decide) (.slice A1 k c1) k os rfl (HOD.out.alloc _) ⟨wr.heap.size, 0, none⟩ 1 1 nw rfl HL3.out (HN3.out wr.drew _) HONE.out (by unfold maxLen; omega) (by omega) (by first | (simp; done) | (simp; omega)) ?_); intro v5 w5 hown5 hgrow5 _; obtain ⟨A5, c5, rfl, _⟩ := own_formK hown5; have HO5 := Lib.hid hown5; have hs5 : w.heap.size ≤ w5.heap.size := (by have := hgrow5.size; simp at this; omega); have HB5 := Lib.hid (own_below (HOD.out.alloc _) (HBD.out.alloc hsd _) (by first | (simp; done) | (simp; omega)) hgrow5); clear hown5 hgrow5)
      all_goals
        go_wp2
        go_roundg gh
        case measure => omega
        case rel =>
          have ho5 := HO5.out
          rw [HTK.out] at ho5
          exact ⟨k + 1, A5, c5, by omega, by go_num, rfl, hs5, Lib.hid ho5, HB5⟩

end Go.Proofs.Ytnnmliblnmijdaa
