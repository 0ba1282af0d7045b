/- The walks of Window and of the document's; the law FoldWindows. -/
import Derived.Test.YtnnmliblnmijdaaD4
import Derived.Maps.AppendAt
import Derived.Laws.AppendOwnNone
namespace Go.Proofs.Ytnnmliblnmijdaa
open Go.RowKit

theorem wpList_append_lotE {P : Program} (w : World) {ops : Array Oper} {rest : List Oper} {o : Oper} {a : Act} {Q : Exit → Act → World → Prop} (hgd : o.guard = none) (s x : Operand) (t : TypeId)
    (ho : o.op = .call { callee := .builtin .append, args := #[s, x], argTypes := #[t, t] })
    (base : Nat) (e : TypeId) (i : TypeInfo) (z : Value) (size bytes : Nat) (ht : P.underlying t = some (.slice e)) (hi : P.info? e = some i) (hz : i.zero = some z)
    (hsize : i.size = size) (hby : i.bytes = bytes) (hzs : z.cells.size = size) (hsz : 0 < size)
    (v : Value) (n : Nat) (xs : List Value) (hs : a.eval s = v) (hown : w.ownsRow base e size v n xs)
    (A : Option Addr) (m c : Nat) (news : List Value) (hx : a.eval x = .slice A m c) (hA : A = none → m = 0 ∧ c = 0) (hl : news.length = m * size) (hnews : ∀ ad, A = some ad → ∀ j u, news[j]? = some u → w.cell? (ad.add j) = some u) (h1 : ∀ u ∈ news, u.oneCell' = true)
    (h63 : n + m ≤ maxLen) (hbytes : (n + m) * bytes ≤ 140737488355328) (hbase : base ≤ w.heap.size)
    (h : ∀ v' w', w'.ownsRow base e size v' (n + m) (xs ++ news) → w.grownBy w' v.ownBlock → (v'.ownBlock = v.ownBlock ∨ v'.ownBlock = some w.heap.size) → wpList P ops Q rest (a.put o.dst v') w') : wpList P ops Q (o :: rest) a w := by
  cases A with
  | none =>
    obtain ⟨rfl, rfl⟩ := hA rfl
    have hn : news = [] := List.length_eq_zero_iff.1 (by rw [hl]; simp)
    subst hn
    exact wpList_append_own_none hgd s x t ho base e i size ht hi v n xs hs hown hx (h v w (by rw [Nat.add_zero, List.append_nil]; exact hown) ⟨rfl, rfl, rfl, Nat.le_refl _, fun _ _ _ => rfl⟩ (.inl rfl))
  | some ad => exact wpList_append_own_at w hgd s x t ho base e i z size bytes ht hi hz hsize hby hzs hsz v n xs hs hown ad m c news hx hl (hnews ad rfl) h1 h63 hbytes hbase (fun v' w' h2 h3 _ h5 => h v' w' h2 h3 h5)
theorem slice_items (A : Option Addr) (n c a h : Nat) (hc : a + h ≤ c) : ∃ A', (∀ W, (Instr.slice 26 (.slice A n c) (some (.int .i64 a)) (some (.int .i64 ((a + h : Nat) : Int))) none).run Try.prog W = .ok (.slice A' h (c - a)) W) ∧ (A = none → A' = none) ∧ (∀ ad, A = some ad → 0 < h → A' = some (ad.add (a * 3))) ∧ (if c = a then A else Option.map (fun x => x.add (a * 3)) A) = A' := by
  refine ⟨if c = a then A else A.map (·.add (a * 3)), fun W => ?_, fun e => ?_, fun ad e hh => ?_, rfl⟩
  · have := run_slice_lh (P := Try.prog) (w := W) 26 A n c Try.underlying26 .i64 .i64 a ((a + h : Nat) : Int) (by omega) (by omega) (by omega)
    rw [this]
    have e1 : (a + h : Nat) - a = h := by omega
    simp only [Result.andThen, sliced, Int.toNat_natCast, e1]
    rfl
  · subst e
    split <;> rfl
  · subst e
    rw [if_neg (by omega)]
    rfl
/-- As many from a place on. -/
def wn (L : List T3) (a h : Nat) : List T3 := (L.drop a).take h
def winH (n : Nat) (h : Int) : Nat := (min (max h 0) n).toNat
def winT (n : Nat) (t h : Int) : Nat := (max (min t ((n : Int) - winH n h)) 0).toNat
theorem win_le (n : Nat) (t h : Int) : winT n t h + winH n h ≤ n := by unfold winT winH; omega
theorem drop_take {L : List T3} {a h : Nat} (hl : a + h ≤ L.length) (j : Nat) (hj : j < h * 3) : (rowsV encI ((L.drop a).take h))[j]? = (rowsV encI L)[a * 3 + j]? := by
  have e : L = L.take a ++ ((L.drop a).take h ++ (L.drop a).drop h) := by rw [List.take_append_drop, List.take_append_drop]
  have h1 : (rowsV encI (L.take a)).length = a * 3 := by rw [rowsV_len encI 3 encI_len, List.length_take]; congr 1; omega
  have h2 : (rowsV encI ((L.drop a).take h)).length = h * 3 := by rw [rowsV_len encI 3 encI_len, List.length_take, List.length_drop]; congr 1; omega
  conv => rhs; rw [e, rowsV_app, rowsV_app]
  rw [List.getElem?_append_right (by omega), h1, Nat.add_sub_cancel_left, List.getElem?_append_left (by omega)]
/-- A slice that reads as items, and a top. -/
def WinPost (M : List T3) (m : Nat) (t : Int) (w : World) (e : Ending) (w' : World) : Prop := ∃ A' c', e = .returned (.tuple #[.slice A' m c', .int .i64 t]) ∧ RK encI 3 w' A' M ∧ Below w.heap.size w w'
set_option maxRecDepth 100000 in
set_option maxHeartbeats 4000000 in
theorem window_any (A : Option Addr) (L : List T3) (n c : Nat) (hn : n = L.length) (hl : n ≤ 1000000) (hc : n ≤ c) (hA : A = none → c = 0) (t h : Int) (w : World) (hr : RK encI 3 w A L) :
    Calls Try.prog 17 #[.slice A n c, .int .i64 t, .int .i64 h] w (WinPost (wn L (winT n t h) (winH n h)) (winH n h) (winT n t h : Nat) w) := by
  obtain ⟨i0, hi0, hz0, hz1, hz2⟩ := info_parts infoItem
  have hle := win_le n t h
  have hhn : winH n h ≤ n := by omega
  obtain ⟨hh, hhh⟩ : ∃ x, x = winH n h := ⟨_, rfl⟩
  obtain ⟨tt, htt⟩ : ∃ x, x = winT n t h := ⟨_, rfl⟩
  rw [← hhh, ← htt] at hle ⊢
  have e1 : min (max h 0) (n : Int) = (hh : Nat) := by rw [hhh]; unfold winH; omega
  have e1' : (if (n : Int) < (if h < 0 then 0 else h) then (n : Int) else (if h < 0 then 0 else h)) = (hh : Nat) := by rw [hhh]; unfold winH; split <;> split <;> omega
  have e2 : IntKind.i64.wrap ((n : Int) - hh) = (n : Int) - hh := IntWalk.i64_in _ (by omega)
  have e3 : max (min t ((n : Int) - hh)) 0 = (tt : Nat) := by rw [htt, hhh]; unfold winT; omega
  have e3' : (if (if (n : Int) - hh < t then (n : Int) - hh else t) < 0 then 0 else (if (n : Int) - hh < t then (n : Int) - hh else t)) = (tt : Nat) := by rw [htt, hhh]; unfold winT; split <;> split <;> omega
  have e4 : IntKind.i64.wrap ((tt : Int) + hh) = ((tt + hh : Nat) : Int) := by rw [IntWalk.i64_in _ (by omega)]; omega
  obtain ⟨A1, hs, hs0, hs1, hsA⟩ := slice_items A n c tt hh (by omega)
  have HEE : Hid (tt + hh - tt = hh) := Lib.hid (by omega)
  obtain ⟨c1, hc1⟩ : ∃ c1, c - tt = c1 := ⟨_, rfl⟩
  rw [hc1] at hs
  have HA1 : Hid (A1 = none → hh = 0 ∧ c1 = 0) := Lib.hid fun e => by
    cases A with
    | none => have := hA rfl; omega
    | some ad =>
      by_cases hp : 0 < hh
      · rw [hs1 ad rfl hp] at e; cases e
      · refine ⟨by omega, ?_⟩
        have : hh = 0 := by omega
        by_cases hca : c = tt
        · omega
        · exfalso
          have h1 := hs w
          have h2 := run_slice_lh (P := Try.prog) (w := w) 26 (some ad) n c Try.underlying26 .i64 .i64 tt ((tt + hh : Nat) : Int) (by omega) (by omega) (by omega)
          rw [h2] at h1
          simp only [Result.andThen, sliced, Int.toNat_natCast, if_neg hca, Option.map_some] at h1
          injection h1 with h1 _
          injection h1 with h1 _ _
          rw [e] at h1
          cases h1
  obtain ⟨M, hM⟩ : ∃ M, M = wn L tt hh := ⟨_, rfl⟩
  have HML : Hid (hh = M.length) := Lib.hid (by rw [hM, wn, List.length_take, List.length_drop]; omega)
  have HNW : Hid (∀ ad, A1 = some ad → ∀ (j : Nat) (u : Value), (rowsV encI M)[j]? = some u → w.cell? (ad.add j) = some u) := Lib.hid fun ad had j u hj => by
    have hjl : j < hh * 3 := by
      have := (List.getElem?_eq_some_iff.1 hj).1
      rw [rowsV_len encI 3 encI_len, ← HML.out] at this
      exact this
    rw [hM, wn, drop_take (by omega) j hjl] at hj
    cases A with
    | none => rw [hs0 rfl] at had; cases had
    | some a0 =>
      have e := hs1 a0 rfl (by omega)
      rw [had] at e
      injection e with e
      subst e
      have h1 := hr (fun e => by rw [e] at hn; simp at hn; omega)
      obtain ⟨b0, off, eb, _, _⟩ := h1
      injection eb with eb
      subst eb
      have := RK.lies encI_len (by omega) hr (tt * 3 + j) u hj
      have e2 : ((⟨b0, off, none⟩ : Addr).add (tt * 3)).add j = (⟨b0, off, none⟩ : Addr).add (tt * 3 + j) := by
        unfold Addr.add
        by_cases h1 : tt * 3 = 0 <;> by_cases h2 : j = 0 <;> simp [h1, h2, Nat.add_assoc]
      rw [e2]
      exact this
  have HLN : Hid ((rowsV encI M).length = hh * 3) := Lib.hid (by rw [rowsV_len encI 3 encI_len, ← HML.out])
  have HON := Lib.hid (rowsV_one encI encI_one M)
  have HRO : Hid (∀ w' A' c', w'.ownsRow w.heap.size 40 3 (.slice A' (0 + hh) c') (0 + hh) ([] ++ rowsV encI M) → RK encI 3 w' A' M) := Lib.hid fun w' A' c' ho => by
    rw [List.nil_append, Nat.zero_add] at ho
    exact RK.of_own encI_len ho HML.out
  have HNO : Hid (w.ownsRow w.heap.size 40 3 (.slice none 0 0) 0 []) := Lib.hid (World.ownsRow_nil _ _ _ _)
  rw [← hM]
  clear hr hn hhh htt hs hs0 hs1 hM hA e1 e3
  generalize rowsV encI M = os at *
  go_enter Try.func17, Try.ntmps17
  go_wp2_with (at_builtin; go_must (refine wpList_append_lotE _ rfl _ _ 26 rfl w.heap.size 40 i0 _ 3 24 Try.underlying26 hi0 hz0 hz1 hz2 rfl (by decide) (.slice none 0 0) 0 [] rfl HNO.out A1 hh c1 os (congrArg (fun q => Value.slice A1 q c1) HEE.out) HA1.out HLN.out HNW.out HON.out (by unfold maxLen; omega) (by omega) (Nat.le_refl _) ?_; intro v5 w5 hown5 hgrow5 _; obtain ⟨A5, c5, rfl, _⟩ := own_formK hown5; have HR5 := Lib.hid (HRO.out _ _ _ hown5); have HB5 := Lib.hid (own_below HNO.out (Below.refl w.heap.size w) (Nat.le_refl _) hgrow5); clear hown5 hgrow5))
  all_goals go_ret2
  all_goals exact ⟨A5, c5, by simp, HR5.out, HB5.out⟩
set_option maxRecDepth 100000 in
set_option maxHeartbeats 4000000 in
theorem refWin_a1 (A : Option Addr) (L : List T3) (n c : Nat) (hn : n = L.length) (t h : Int) (hh : Nat) (w : World) (hr : RK encI 3 w A L) (h0 : h < 0) (hnn : n = 0) (hhe : hh = 0) :
    Calls Try.prog 18 #[.slice A n c, .int .i64 t, .int .i64 h] w (WinPost (wn L 0 hh) hh (0 : Nat) w) := by
  obtain ⟨i0, hi0, hz0, hz1, hz2⟩ := info_parts infoItem
  have HR := Lib.hid hr
  have HN := Lib.hid hn
  have hb1 : (n : Int) ≤ 0 := by omega
  have HHE := Lib.hid hhe
  clear hr hn hhe
  go_enter Try.func18, Try.ntmps18
  go_wp2
  go_loopg [9, 10] hh (fun gh s9 s10 wx => ∃ (j : Nat) (A1 : Option Addr) (c1 : Nat), j + gh = hh ∧ s10 = .int .i64 ((j : Nat) : Int) ∧ s9 = .slice A1 j c1 ∧ w.heap.size ≤ wx.heap.size ∧ Hid (wx.ownsRow w.heap.size 40 3 (.slice A1 j c1) j (rowsV encI (wn L 0 j))) ∧ Hid (Below w.heap.size w wx))
  case atStart => exact ⟨0, none, 0, by omega, rfl, rfl, Nat.le_refl _, Lib.hid (World.ownsRow_nil _ _ _ _), Lib.hid (Below.refl _ _)⟩
  case round =>
    obtain ⟨j, A1, c1, hj, rfl, rfl, hs, HO, HB⟩ := hrel
    cases gk with
    | zero =>
      obtain rfl : hh = j := by omega
      have HE : Hid (RK encI 3 wr A1 (wn L 0 hh)) := Lib.hid (RK.of_own encI_len HO.out (by unfold wn; rw [List.length_take, List.length_drop]; have := HN.out; have := HHE.out; omega))
      clear HO
      by_cases hg : ((hh : Nat) : Int) < n
      · have hg2 : ¬ (hh : Int) < 0 := by have := HHE.out; omega
        have hw5 : IntKind.i64.wrap (((hh : Nat) : Int) - (0 : Nat)) = (hh : Int) := by rw [IntWalk.i64_in _ (by have := HHE.out; omega)]; omega
        go_wp2
        all_goals go_ret2
        all_goals exact ⟨A1, c1, rfl, HE.out, HB.out⟩
      · go_wp2
        go_ret2
        exact ⟨A1, c1, rfl, HE.out, HB.out⟩
    | succ gh =>
      exfalso
      have := HHE.out
      omega
set_option maxRecDepth 100000 in
set_option maxHeartbeats 4000000 in
theorem refWin_a2 (A : Option Addr) (L : List T3) (n c : Nat) (hn : n = L.length) (hl : n ≤ 1000000) (t h : Int) (hh : Nat) (w : World) (hr : RK encI 3 w A L) (h0 : h < 0) (hnn : 0 < n) (ht : t < 0) (hhe : hh = 0) :
    Calls Try.prog 18 #[.slice A n c, .int .i64 t, .int .i64 h] w (WinPost (wn L 0 hh) hh (0 : Nat) w) := by
  obtain ⟨i0, hi0, hz0, hz1, hz2⟩ := info_parts infoItem
  have HR := Lib.hid hr
  have HN := Lib.hid hn
  have hb1 : ¬ (n : Int) ≤ 0 := by omega
  have HHE := Lib.hid hhe
  clear hr hn hhe
  go_enter Try.func18, Try.ntmps18
  go_wp2
  go_loopg [9, 10] hh (fun gh s9 s10 wx => ∃ (j : Nat) (A1 : Option Addr) (c1 : Nat), j + gh = hh ∧ s10 = .int .i64 ((j : Nat) : Int) ∧ s9 = .slice A1 j c1 ∧ w.heap.size ≤ wx.heap.size ∧ Hid (wx.ownsRow w.heap.size 40 3 (.slice A1 j c1) j (rowsV encI (wn L 0 j))) ∧ Hid (Below w.heap.size w wx))
  case atStart => exact ⟨0, none, 0, by omega, rfl, rfl, Nat.le_refl _, Lib.hid (World.ownsRow_nil _ _ _ _), Lib.hid (Below.refl _ _)⟩
  case round =>
    obtain ⟨j, A1, c1, hj, rfl, rfl, hs, HO, HB⟩ := hrel
    cases gk with
    | zero =>
      obtain rfl : hh = j := by omega
      have HE : Hid (RK encI 3 wr A1 (wn L 0 hh)) := Lib.hid (RK.of_own encI_len HO.out (by unfold wn; rw [List.length_take, List.length_drop]; have := HN.out; have := HHE.out; omega))
      clear HO
      by_cases hg : ((hh : Nat) : Int) < n
      · have hg2 : ¬ (hh : Int) < 0 := by have := HHE.out; omega
        have hw5 : IntKind.i64.wrap (((hh : Nat) : Int) - (0 : Nat)) = (hh : Int) := by rw [IntWalk.i64_in _ (by have := HHE.out; omega)]; omega
        go_wp2
        all_goals go_ret2
        all_goals exact ⟨A1, c1, rfl, HE.out, HB.out⟩
      · go_wp2
        go_ret2
        exact ⟨A1, c1, rfl, HE.out, HB.out⟩
    | succ gh =>
      exfalso
      have := HHE.out
      omega
set_option maxRecDepth 100000 in
set_option maxHeartbeats 4000000 in
theorem refWin_a3 (A : Option Addr) (L : List T3) (n c : Nat) (hn : n = L.length) (hl : n ≤ 1000000) (t h : Int) (hh : Nat) (w : World) (hr : RK encI 3 w A L) (h0 : h < 0) (hnn : 0 < n) (ht : (n : Int) < t) (hhe : hh = 0) :
    Calls Try.prog 18 #[.slice A n c, .int .i64 t, .int .i64 h] w (WinPost (wn L n hh) hh (n : Nat) w) := by
  obtain ⟨i0, hi0, hz0, hz1, hz2⟩ := info_parts infoItem
  have HR := Lib.hid hr
  have HN := Lib.hid hn
  have hb1 : ¬ (n : Int) ≤ 0 := by omega
  have hb2 : ¬ t < 0 := by omega
  have hw0 : IntKind.i64.wrap ((n : Int) - 0) = (n : Int) := by rw [IntWalk.i64_in _ (by omega)]; omega
  have HHE := Lib.hid hhe
  clear hr hn hhe
  go_enter Try.func18, Try.ntmps18
  go_wp2
  go_loopg [9, 10] hh (fun gh s9 s10 wx => ∃ (j : Nat) (A1 : Option Addr) (c1 : Nat), j + gh = hh ∧ s10 = .int .i64 (((n + j) : Nat) : Int) ∧ s9 = .slice A1 j c1 ∧ w.heap.size ≤ wx.heap.size ∧ Hid (wx.ownsRow w.heap.size 40 3 (.slice A1 j c1) j (rowsV encI (wn L n j))) ∧ Hid (Below w.heap.size w wx))
  case atStart => exact ⟨0, none, 0, by omega, rfl, rfl, Nat.le_refl _, Lib.hid (World.ownsRow_nil _ _ _ _), Lib.hid (Below.refl _ _)⟩
  case round =>
    obtain ⟨j, A1, c1, hj, rfl, rfl, hs, HO, HB⟩ := hrel
    cases gk with
    | zero =>
      obtain rfl : hh = j := by omega
      have HE : Hid (RK encI 3 wr A1 (wn L n hh)) := Lib.hid (RK.of_own encI_len HO.out (by unfold wn; rw [List.length_take, List.length_drop]; have := HN.out; have := HHE.out; omega))
      clear HO
      by_cases hg : (((n + hh) : Nat) : Int) < n
      · have hg2 : ¬ (hh : Int) < 0 := by have := HHE.out; omega
        have hw5 : IntKind.i64.wrap ((((n + hh) : Nat) : Int) - (n : Nat)) = (hh : Int) := by rw [IntWalk.i64_in _ (by have := HHE.out; omega)]; omega
        go_wp2
        all_goals go_ret2
        all_goals exact ⟨A1, c1, rfl, HE.out, HB.out⟩
      · go_wp2
        go_ret2
        exact ⟨A1, c1, rfl, HE.out, HB.out⟩
    | succ gh =>
      exfalso
      have := HHE.out
      omega
set_option maxRecDepth 100000 in
set_option maxHeartbeats 4000000 in
theorem refWin_a4 (A : Option Addr) (L : List T3) (n c : Nat) (hn : n = L.length) (hl : n ≤ 1000000) (t : Nat) (h : Int) (hh : Nat) (w : World) (hr : RK encI 3 w A L) (h0 : h < 0) (hnn : 0 < n) (ht : t ≤ n) (hhe : hh = 0) :
    Calls Try.prog 18 #[.slice A n c, .int .i64 (t : Int), .int .i64 h] w (WinPost (wn L t hh) hh (t : Nat) w) := by
  obtain ⟨i0, hi0, hz0, hz1, hz2⟩ := info_parts infoItem
  have HR := Lib.hid hr
  have HN := Lib.hid hn
  have hb1 : ¬ (n : Int) ≤ 0 := by omega
  have hb2 : ¬ (t : Int) < 0 := by omega
  have hb3 : ¬ (n : Int) < t := by omega
  have hw0 : IntKind.i64.wrap ((n : Int) - 0) = (n : Int) := by rw [IntWalk.i64_in _ (by omega)]; omega
  have HHE := Lib.hid hhe
  clear hr hn hhe
  go_enter Try.func18, Try.ntmps18
  go_wp2
  go_loopg [9, 10] hh (fun gh s9 s10 wx => ∃ (j : Nat) (A1 : Option Addr) (c1 : Nat), j + gh = hh ∧ s10 = .int .i64 (((t + j) : Nat) : Int) ∧ s9 = .slice A1 j c1 ∧ w.heap.size ≤ wx.heap.size ∧ Hid (wx.ownsRow w.heap.size 40 3 (.slice A1 j c1) j (rowsV encI (wn L t j))) ∧ Hid (Below w.heap.size w wx))
  case atStart => exact ⟨0, none, 0, by omega, rfl, rfl, Nat.le_refl _, Lib.hid (World.ownsRow_nil _ _ _ _), Lib.hid (Below.refl _ _)⟩
  case round =>
    obtain ⟨j, A1, c1, hj, rfl, rfl, hs, HO, HB⟩ := hrel
    cases gk with
    | zero =>
      obtain rfl : hh = j := by omega
      have HE : Hid (RK encI 3 wr A1 (wn L t hh)) := Lib.hid (RK.of_own encI_len HO.out (by unfold wn; rw [List.length_take, List.length_drop]; have := HN.out; have := HHE.out; omega))
      clear HO
      by_cases hg : (((t + hh) : Nat) : Int) < n
      · have hg2 : ¬ (hh : Int) < 0 := by have := HHE.out; omega
        have hw5 : IntKind.i64.wrap ((((t + hh) : Nat) : Int) - (t : Nat)) = (hh : Int) := by rw [IntWalk.i64_in _ (by have := HHE.out; omega)]; omega
        go_wp2
        all_goals go_ret2
        all_goals exact ⟨A1, c1, rfl, HE.out, HB.out⟩
      · go_wp2
        go_ret2
        exact ⟨A1, c1, rfl, HE.out, HB.out⟩
    | succ gh =>
      exfalso
      have := HHE.out
      omega
set_option maxRecDepth 100000 in
set_option maxHeartbeats 4000000 in
theorem refWin_b1 (A : Option Addr) (L : List T3) (n c : Nat) (hn : n = L.length) (hl : n ≤ 1000000) (t h : Int) (hh : Nat) (w : World) (hr : RK encI 3 w A L) (hnn : (n : Int) ≤ h) (hhe : hh = n) :
    Calls Try.prog 18 #[.slice A n c, .int .i64 t, .int .i64 h] w (WinPost (wn L 0 hh) hh (0 : Nat) w) := by
  obtain ⟨i0, hi0, hz0, hz1, hz2⟩ := info_parts infoItem
  have HR := Lib.hid hr
  have HN := Lib.hid hn
  have h0 : ¬ h < 0 := by omega
  have HHE := Lib.hid hhe
  clear hr hn hhe
  go_enter Try.func18, Try.ntmps18
  go_wp2
  go_loopg [9, 10] hh (fun gh s9 s10 wx => ∃ (j : Nat) (A1 : Option Addr) (c1 : Nat), j + gh = hh ∧ s10 = .int .i64 ((j : Nat) : Int) ∧ s9 = .slice A1 j c1 ∧ w.heap.size ≤ wx.heap.size ∧ Hid (wx.ownsRow w.heap.size 40 3 (.slice A1 j c1) j (rowsV encI (wn L 0 j))) ∧ Hid (Below w.heap.size w wx))
  case atStart => exact ⟨0, none, 0, by omega, rfl, rfl, Nat.le_refl _, Lib.hid (World.ownsRow_nil _ _ _ _), Lib.hid (Below.refl _ _)⟩
  case round =>
    obtain ⟨j, A1, c1, hj, rfl, rfl, hs, HO, HB⟩ := hrel
    cases gk with
    | zero =>
      obtain rfl : hh = j := by omega
      have HE : Hid (RK encI 3 wr A1 (wn L 0 hh)) := Lib.hid (RK.of_own encI_len HO.out (by unfold wn; rw [List.length_take, List.length_drop]; have := HN.out; have := HHE.out; omega))
      clear HO
      by_cases hg : ((hh : Nat) : Int) < n
      · have hg2 : ¬ (hh : Int) < h := by have := HHE.out; omega
        have hw5 : IntKind.i64.wrap (((hh : Nat) : Int) - (0 : Nat)) = (hh : Int) := by rw [IntWalk.i64_in _ (by have := HHE.out; omega)]; omega
        go_wp2
        all_goals go_ret2
        all_goals exact ⟨A1, c1, rfl, HE.out, HB.out⟩
      · go_wp2
        go_ret2
        exact ⟨A1, c1, rfl, HE.out, HB.out⟩
    | succ gh =>
      have hg1 : ((j : Nat) : Int) < n := by have := HHE.out; omega
      have hg2 : (j : Int) < h := by have := HHE.out; omega
      have hw5 : IntKind.i64.wrap (((j : Nat) : Int) - (0 : Nat)) = (j : Int) := by rw [IntWalk.i64_in _ (by have := HHE.out; omega)]; omega
      have hw6 : IntKind.i64.wrap (((j : Nat) : Int) + 1) = (((j + 1) : Nat) : Int) := by rw [IntWalk.i64_in _ (by have := HHE.out; omega)]; omega
      obtain ⟨bb, off, rfl, hG⟩ := HR.out.it (fun e => by have := HN.out; rw [e] at this; simp at this; omega)
      obtain ⟨g0, gA⟩ := hG _ HB.out
      obtain ⟨x0, x1, x2⟩ := gA j (by have := HN.out; have := HHE.out; omega)
      have HTK : Hid (rowsV encI (wn L 0 j) ++ encI (Nth L j) = rowsV encI (wn L 0 (j + 1))) := Lib.hid (by
        unfold wn
        rw [take_snocT _ j (by rw [List.length_drop]; have := HN.out; have := HHE.out; omega), rowsV_app]
        have e : Nth (L.drop 0) j = Nth L j := by unfold Nth; rw [List.getElem?_drop]; simp
        rw [e]
        simp [rowsV])
      clear hG gA
      generalize Nth L j = x at *
      obtain ⟨xa, xb, xc⟩ := x
      simp only at x0 x1 x2
      have HONE := Lib.hid (encI_one (xa, xb, xc))
      have HL3 := Lib.hid (encI_len (xa, xb, xc))
      have HN3 : Hid (∀ (W : World) t, ∀ (i : Nat) (u : Value), (encI (xa, xb, xc))[i]? = some u → (W.alloc (.cells #[.int .i64 xa, .int .u64 xb, .int .i64 xc] t)).cell? ((⟨W.heap.size, 0, none⟩ : Addr).add i) = some u) := Lib.hid fun W t => news3 W _ _ rfl t
      generalize encI (xa, xb, xc) = nw at *
      obtain ⟨os, hos⟩ : ∃ os, os = rowsV encI (wn L 0 j) := ⟨_, rfl⟩
      rw [← hos] at HO HTK
      have hj6 : j ≤ 1000000 := by have := HHE.out; omega
      clear hos
      go_wp2_with (at_builtin; go_must (refine wpList_append_own _ rfl _ _ 26 rfl w.heap.size 40 i0 _ 3 24 Try.underlying26 hi0 hz0 hz1 hz2 rfl (by decide) (.slice A1 j c1) j os rfl (HO.out.alloc _) ⟨wr.heap.size, 0, none⟩ 1 1 nw rfl HL3.out (HN3.out _ _) HONE.out (by unfold maxLen; omega) (by omega) (by first | (simp; done) | (simp; omega)) ?_; intro v5 w5 hown5 hgrow5 _; obtain ⟨A5, c5, rfl, _⟩ := own_formK hown5; have HO5 := Lib.hid hown5; have hs5 : w.heap.size ≤ w5.heap.size := (by have := hgrow5.size; simp at this; omega); have HB5 := Lib.hid (own_below (HO.out.alloc _) (HB.out.alloc hs _) (by first | (simp; done) | (simp; omega)) hgrow5); clear hown5 hgrow5))
      go_roundg gh
      case measure => omega
      case rel =>
        have ho5 := HO5.out
        rw [HTK.out] at ho5
        exact ⟨j + 1, A5, c5, by omega, rfl, rfl, hs5, Lib.hid ho5, HB5⟩
set_option maxRecDepth 100000 in
set_option maxHeartbeats 4000000 in
theorem refWin_b2 (A : Option Addr) (L : List T3) (n c : Nat) (hn : n = L.length) (hl : n ≤ 1000000) (t h : Int) (hh : Nat) (w : World) (hr : RK encI 3 w A L) (h0 : 0 ≤ h) (hnn : h < (n : Int)) (ht : t < 0) (hhe : (hh : Int) = h) :
    Calls Try.prog 18 #[.slice A n c, .int .i64 t, .int .i64 h] w (WinPost (wn L 0 hh) hh (0 : Nat) w) := by
  obtain ⟨i0, hi0, hz0, hz1, hz2⟩ := info_parts infoItem
  have HR := Lib.hid hr
  have HN := Lib.hid hn
  have h0' : ¬ h < 0 := by omega
  have hb1 : ¬ (n : Int) ≤ h := by omega
  have HHE := Lib.hid hhe
  clear hr hn hhe
  go_enter Try.func18, Try.ntmps18
  go_wp2
  go_loopg [9, 10] hh (fun gh s9 s10 wx => ∃ (j : Nat) (A1 : Option Addr) (c1 : Nat), j + gh = hh ∧ s10 = .int .i64 ((j : Nat) : Int) ∧ s9 = .slice A1 j c1 ∧ w.heap.size ≤ wx.heap.size ∧ Hid (wx.ownsRow w.heap.size 40 3 (.slice A1 j c1) j (rowsV encI (wn L 0 j))) ∧ Hid (Below w.heap.size w wx))
  case atStart => exact ⟨0, none, 0, by omega, rfl, rfl, Nat.le_refl _, Lib.hid (World.ownsRow_nil _ _ _ _), Lib.hid (Below.refl _ _)⟩
  case round =>
    obtain ⟨j, A1, c1, hj, rfl, rfl, hs, HO, HB⟩ := hrel
    cases gk with
    | zero =>
      obtain rfl : hh = j := by omega
      have HE : Hid (RK encI 3 wr A1 (wn L 0 hh)) := Lib.hid (RK.of_own encI_len HO.out (by unfold wn; rw [List.length_take, List.length_drop]; have := HN.out; have := HHE.out; omega))
      clear HO
      by_cases hg : ((hh : Nat) : Int) < n
      · have hg2 : ¬ (hh : Int) < h := by have := HHE.out; omega
        have hw5 : IntKind.i64.wrap (((hh : Nat) : Int) - (0 : Nat)) = (hh : Int) := by rw [IntWalk.i64_in _ (by have := HHE.out; omega)]; omega
        go_wp2
        all_goals go_ret2
        all_goals exact ⟨A1, c1, rfl, HE.out, HB.out⟩
      · go_wp2
        go_ret2
        exact ⟨A1, c1, rfl, HE.out, HB.out⟩
    | succ gh =>
      have hg1 : ((j : Nat) : Int) < n := by have := HHE.out; omega
      have hg2 : (j : Int) < h := by have := HHE.out; omega
      have hw5 : IntKind.i64.wrap (((j : Nat) : Int) - (0 : Nat)) = (j : Int) := by rw [IntWalk.i64_in _ (by have := HHE.out; omega)]; omega
      have hw6 : IntKind.i64.wrap (((j : Nat) : Int) + 1) = (((j + 1) : Nat) : Int) := by rw [IntWalk.i64_in _ (by have := HHE.out; omega)]; omega
      obtain ⟨bb, off, rfl, hG⟩ := HR.out.it (fun e => by have := HN.out; rw [e] at this; simp at this; omega)
      obtain ⟨g0, gA⟩ := hG _ HB.out
      obtain ⟨x0, x1, x2⟩ := gA j (by have := HN.out; have := HHE.out; omega)
      have HTK : Hid (rowsV encI (wn L 0 j) ++ encI (Nth L j) = rowsV encI (wn L 0 (j + 1))) := Lib.hid (by
        unfold wn
        rw [take_snocT _ j (by rw [List.length_drop]; have := HN.out; have := HHE.out; omega), rowsV_app]
        have e : Nth (L.drop 0) j = Nth L j := by unfold Nth; rw [List.getElem?_drop]; simp
        rw [e]
        simp [rowsV])
      clear hG gA
      generalize Nth L j = x at *
      obtain ⟨xa, xb, xc⟩ := x
      simp only at x0 x1 x2
      have HONE := Lib.hid (encI_one (xa, xb, xc))
      have HL3 := Lib.hid (encI_len (xa, xb, xc))
      have HN3 : Hid (∀ (W : World) t, ∀ (i : Nat) (u : Value), (encI (xa, xb, xc))[i]? = some u → (W.alloc (.cells #[.int .i64 xa, .int .u64 xb, .int .i64 xc] t)).cell? ((⟨W.heap.size, 0, none⟩ : Addr).add i) = some u) := Lib.hid fun W t => news3 W _ _ rfl t
      generalize encI (xa, xb, xc) = nw at *
      obtain ⟨os, hos⟩ : ∃ os, os = rowsV encI (wn L 0 j) := ⟨_, rfl⟩
      rw [← hos] at HO HTK
      have hj6 : j ≤ 1000000 := by have := HHE.out; omega
      clear hos
      go_wp2_with (at_builtin; go_must (refine wpList_append_own _ rfl _ _ 26 rfl w.heap.size 40 i0 _ 3 24 Try.underlying26 hi0 hz0 hz1 hz2 rfl (by decide) (.slice A1 j c1) j os rfl (HO.out.alloc _) ⟨wr.heap.size, 0, none⟩ 1 1 nw rfl HL3.out (HN3.out _ _) HONE.out (by unfold maxLen; omega) (by omega) (by first | (simp; done) | (simp; omega)) ?_; intro v5 w5 hown5 hgrow5 _; obtain ⟨A5, c5, rfl, _⟩ := own_formK hown5; have HO5 := Lib.hid hown5; have hs5 : w.heap.size ≤ w5.heap.size := (by have := hgrow5.size; simp at this; omega); have HB5 := Lib.hid (own_below (HO.out.alloc _) (HB.out.alloc hs _) (by first | (simp; done) | (simp; omega)) hgrow5); clear hown5 hgrow5))
      go_roundg gh
      case measure => omega
      case rel =>
        have ho5 := HO5.out
        rw [HTK.out] at ho5
        exact ⟨j + 1, A5, c5, by omega, rfl, rfl, hs5, Lib.hid ho5, HB5⟩
set_option maxRecDepth 100000 in
set_option maxHeartbeats 4000000 in
theorem refWin_b3 (A : Option Addr) (L : List T3) (n c : Nat) (hn : n = L.length) (hl : n ≤ 1000000) (t h : Int) (tt : Nat) (hh : Nat) (w : World) (hr : RK encI 3 w A L) (h0 : 0 ≤ h) (hnn : h < (n : Int)) (ht : (n : Int) - h < t) (hhe : (hh : Int) = h ∧ (tt : Int) = n - h) :
    Calls Try.prog 18 #[.slice A n c, .int .i64 t, .int .i64 h] w (WinPost (wn L tt hh) hh (tt : Nat) w) := by
  obtain ⟨i0, hi0, hz0, hz1, hz2⟩ := info_parts infoItem
  have HR := Lib.hid hr
  have HN := Lib.hid hn
  have h0' : ¬ h < 0 := by omega
  have hb1 : ¬ (n : Int) ≤ h := by omega
  have hb2 : ¬ t < 0 := by omega
  have hw0 : IntKind.i64.wrap ((n : Int) - h) = (tt : Int) := by rw [IntWalk.i64_in _ (by omega)]; omega
  have hb4 : (tt : Int) < t := by omega
  have HHE := Lib.hid hhe
  clear hr hn hhe
  go_enter Try.func18, Try.ntmps18
  go_wp2
  go_loopg [9, 10] hh (fun gh s9 s10 wx => ∃ (j : Nat) (A1 : Option Addr) (c1 : Nat), j + gh = hh ∧ s10 = .int .i64 (((tt + j) : Nat) : Int) ∧ s9 = .slice A1 j c1 ∧ w.heap.size ≤ wx.heap.size ∧ Hid (wx.ownsRow w.heap.size 40 3 (.slice A1 j c1) j (rowsV encI (wn L tt j))) ∧ Hid (Below w.heap.size w wx))
  case atStart => exact ⟨0, none, 0, by omega, rfl, rfl, Nat.le_refl _, Lib.hid (World.ownsRow_nil _ _ _ _), Lib.hid (Below.refl _ _)⟩
  case round =>
    obtain ⟨j, A1, c1, hj, rfl, rfl, hs, HO, HB⟩ := hrel
    cases gk with
    | zero =>
      obtain rfl : hh = j := by omega
      have HE : Hid (RK encI 3 wr A1 (wn L tt hh)) := Lib.hid (RK.of_own encI_len HO.out (by unfold wn; rw [List.length_take, List.length_drop]; have := HN.out; have := HHE.out; omega))
      clear HO
      by_cases hg : (((tt + hh) : Nat) : Int) < n
      · have hg2 : ¬ (hh : Int) < h := by have := HHE.out; omega
        have hw5 : IntKind.i64.wrap ((((tt + hh) : Nat) : Int) - (tt : Nat)) = (hh : Int) := by rw [IntWalk.i64_in _ (by have := HHE.out; omega)]; omega
        go_wp2
        all_goals go_ret2
        all_goals exact ⟨A1, c1, rfl, HE.out, HB.out⟩
      · go_wp2
        go_ret2
        exact ⟨A1, c1, rfl, HE.out, HB.out⟩
    | succ gh =>
      have hg1 : (((tt + j) : Nat) : Int) < n := by have := HHE.out; omega
      have hg2 : (j : Int) < h := by have := HHE.out; omega
      have hw5 : IntKind.i64.wrap ((((tt + j) : Nat) : Int) - (tt : Nat)) = (j : Int) := by rw [IntWalk.i64_in _ (by have := HHE.out; omega)]; omega
      have hw6 : IntKind.i64.wrap ((((tt + j) : Nat) : Int) + 1) = (((tt + (j + 1)) : Nat) : Int) := by rw [IntWalk.i64_in _ (by have := HHE.out; omega)]; omega
      obtain ⟨bb, off, rfl, hG⟩ := HR.out.it (fun e => by have := HN.out; rw [e] at this; simp at this; omega)
      obtain ⟨g0, gA⟩ := hG _ HB.out
      obtain ⟨x0, x1, x2⟩ := gA (tt + j) (by have := HN.out; have := HHE.out; omega)
      have HTK : Hid (rowsV encI (wn L tt j) ++ encI (Nth L (tt + j)) = rowsV encI (wn L tt (j + 1))) := Lib.hid (by
        unfold wn
        rw [take_snocT _ j (by rw [List.length_drop]; have := HN.out; have := HHE.out; omega), rowsV_app]
        have e : Nth (L.drop tt) j = Nth L (tt + j) := by unfold Nth; rw [List.getElem?_drop]
        rw [e]
        simp [rowsV])
      clear hG gA
      generalize Nth L (tt + j) = x at *
      obtain ⟨xa, xb, xc⟩ := x
      simp only at x0 x1 x2
      have HONE := Lib.hid (encI_one (xa, xb, xc))
      have HL3 := Lib.hid (encI_len (xa, xb, xc))
      have HN3 : Hid (∀ (W : World) t, ∀ (i : Nat) (u : Value), (encI (xa, xb, xc))[i]? = some u → (W.alloc (.cells #[.int .i64 xa, .int .u64 xb, .int .i64 xc] t)).cell? ((⟨W.heap.size, 0, none⟩ : Addr).add i) = some u) := Lib.hid fun W t => news3 W _ _ rfl t
      generalize encI (xa, xb, xc) = nw at *
      obtain ⟨os, hos⟩ : ∃ os, os = rowsV encI (wn L tt j) := ⟨_, rfl⟩
      rw [← hos] at HO HTK
      have hj6 : j ≤ 1000000 := by have := HHE.out; omega
      clear hos
      go_wp2_with (at_builtin; go_must (refine wpList_append_own _ rfl _ _ 26 rfl w.heap.size 40 i0 _ 3 24 Try.underlying26 hi0 hz0 hz1 hz2 rfl (by decide) (.slice A1 j c1) j os rfl (HO.out.alloc _) ⟨wr.heap.size, 0, none⟩ 1 1 nw rfl HL3.out (HN3.out _ _) HONE.out (by unfold maxLen; omega) (by omega) (by first | (simp; done) | (simp; omega)) ?_; intro v5 w5 hown5 hgrow5 _; obtain ⟨A5, c5, rfl, _⟩ := own_formK hown5; have HO5 := Lib.hid hown5; have hs5 : w.heap.size ≤ w5.heap.size := (by have := hgrow5.size; simp at this; omega); have HB5 := Lib.hid (own_below (HO.out.alloc _) (HB.out.alloc hs _) (by first | (simp; done) | (simp; omega)) hgrow5); clear hown5 hgrow5))
      go_roundg gh
      case measure => omega
      case rel =>
        have ho5 := HO5.out
        rw [HTK.out] at ho5
        exact ⟨j + 1, A5, c5, by omega, rfl, rfl, hs5, Lib.hid ho5, HB5⟩
set_option maxRecDepth 100000 in
set_option maxHeartbeats 4000000 in
theorem refWin_b4 (A : Option Addr) (L : List T3) (n c : Nat) (hn : n = L.length) (hl : n ≤ 1000000) (t : Nat) (h : Int) (z : Int) (hh : Nat) (w : World) (hr : RK encI 3 w A L) (h0 : 0 ≤ h) (hnn : h < (n : Int)) (hz : z = n - h) (ht : (t : Int) ≤ z) (hhe : (hh : Int) = h) :
    Calls Try.prog 18 #[.slice A n c, .int .i64 (t : Int), .int .i64 h] w (WinPost (wn L t hh) hh (t : Nat) w) := by
  obtain ⟨i0, hi0, hz0, hz1, hz2⟩ := info_parts infoItem
  have HR := Lib.hid hr
  have HN := Lib.hid hn
  have h0' : ¬ h < 0 := by omega
  have hb1 : ¬ (n : Int) ≤ h := by omega
  have hb2 : ¬ (t : Int) < 0 := by omega
  have hw0 : IntKind.i64.wrap ((n : Int) - h) = z := by rw [IntWalk.i64_in _ (by omega)]; omega
  have hb4 : ¬ z < (t : Int) := by omega
  have HHE := Lib.hid hhe
  clear hr hn hhe
  go_enter Try.func18, Try.ntmps18
  go_wp2
  go_loopg [9, 10] hh (fun gh s9 s10 wx => ∃ (j : Nat) (A1 : Option Addr) (c1 : Nat), j + gh = hh ∧ s10 = .int .i64 (((t + j) : Nat) : Int) ∧ s9 = .slice A1 j c1 ∧ w.heap.size ≤ wx.heap.size ∧ Hid (wx.ownsRow w.heap.size 40 3 (.slice A1 j c1) j (rowsV encI (wn L t j))) ∧ Hid (Below w.heap.size w wx))
  case atStart => exact ⟨0, none, 0, by omega, rfl, rfl, Nat.le_refl _, Lib.hid (World.ownsRow_nil _ _ _ _), Lib.hid (Below.refl _ _)⟩
  case round =>
    obtain ⟨j, A1, c1, hj, rfl, rfl, hs, HO, HB⟩ := hrel
    cases gk with
    | zero =>
      obtain rfl : hh = j := by omega
      have HE : Hid (RK encI 3 wr A1 (wn L t hh)) := Lib.hid (RK.of_own encI_len HO.out (by unfold wn; rw [List.length_take, List.length_drop]; have := HN.out; have := HHE.out; omega))
      clear HO
      by_cases hg : (((t + hh) : Nat) : Int) < n
      · have hg2 : ¬ (hh : Int) < h := by have := HHE.out; omega
        have hw5 : IntKind.i64.wrap ((((t + hh) : Nat) : Int) - (t : Nat)) = (hh : Int) := by rw [IntWalk.i64_in _ (by have := HHE.out; omega)]; omega
        go_wp2
        all_goals go_ret2
        all_goals exact ⟨A1, c1, rfl, HE.out, HB.out⟩
      · go_wp2
        go_ret2
        exact ⟨A1, c1, rfl, HE.out, HB.out⟩
    | succ gh =>
      have hg1 : (((t + j) : Nat) : Int) < n := by have := HHE.out; omega
      have hg2 : (j : Int) < h := by have := HHE.out; omega
      have hw5 : IntKind.i64.wrap ((((t + j) : Nat) : Int) - (t : Nat)) = (j : Int) := by rw [IntWalk.i64_in _ (by have := HHE.out; omega)]; omega
      have hw6 : IntKind.i64.wrap ((((t + j) : Nat) : Int) + 1) = (((t + (j + 1)) : Nat) : Int) := by rw [IntWalk.i64_in _ (by have := HHE.out; omega)]; omega
      obtain ⟨bb, off, rfl, hG⟩ := HR.out.it (fun e => by have := HN.out; rw [e] at this; simp at this; omega)
      obtain ⟨g0, gA⟩ := hG _ HB.out
      obtain ⟨x0, x1, x2⟩ := gA (t + j) (by have := HN.out; have := HHE.out; omega)
      have HTK : Hid (rowsV encI (wn L t j) ++ encI (Nth L (t + j)) = rowsV encI (wn L t (j + 1))) := Lib.hid (by
        unfold wn
        rw [take_snocT _ j (by rw [List.length_drop]; have := HN.out; have := HHE.out; omega), rowsV_app]
        have e : Nth (L.drop t) j = Nth L (t + j) := by unfold Nth; rw [List.getElem?_drop]
        rw [e]
        simp [rowsV])
      clear hG gA
      generalize Nth L (t + j) = x at *
      obtain ⟨xa, xb, xc⟩ := x
      simp only at x0 x1 x2
      have HONE := Lib.hid (encI_one (xa, xb, xc))
      have HL3 := Lib.hid (encI_len (xa, xb, xc))
      have HN3 : Hid (∀ (W : World) t, ∀ (i : Nat) (u : Value), (encI (xa, xb, xc))[i]? = some u → (W.alloc (.cells #[.int .i64 xa, .int .u64 xb, .int .i64 xc] t)).cell? ((⟨W.heap.size, 0, none⟩ : Addr).add i) = some u) := Lib.hid fun W t => news3 W _ _ rfl t
      generalize encI (xa, xb, xc) = nw at *
      obtain ⟨os, hos⟩ : ∃ os, os = rowsV encI (wn L t j) := ⟨_, rfl⟩
      rw [← hos] at HO HTK
      have hj6 : j ≤ 1000000 := by have := HHE.out; omega
      clear hos
      go_wp2_with (at_builtin; go_must (refine wpList_append_own _ rfl _ _ 26 rfl w.heap.size 40 i0 _ 3 24 Try.underlying26 hi0 hz0 hz1 hz2 rfl (by decide) (.slice A1 j c1) j os rfl (HO.out.alloc _) ⟨wr.heap.size, 0, none⟩ 1 1 nw rfl HL3.out (HN3.out _ _) HONE.out (by unfold maxLen; omega) (by omega) (by first | (simp; done) | (simp; omega)) ?_; intro v5 w5 hown5 hgrow5 _; obtain ⟨A5, c5, rfl, _⟩ := own_formK hown5; have HO5 := Lib.hid hown5; have hs5 : w.heap.size ≤ w5.heap.size := (by have := hgrow5.size; simp at this; omega); have HB5 := Lib.hid (own_below (HO.out.alloc _) (HB.out.alloc hs _) (by first | (simp; done) | (simp; omega)) hgrow5); clear hown5 hgrow5))
      go_roundg gh
      case measure => omega
      case rel =>
        have ho5 := HO5.out
        rw [HTK.out] at ho5
        exact ⟨j + 1, A5, c5, by omega, rfl, rfl, hs5, Lib.hid ho5, HB5⟩

theorem refWindow_any (A : Option Addr) (L : List T3) (n c : Nat) (hn : n = L.length) (hl : n ≤ 1000000) (t h : Int) (w : World) (hr : RK encI 3 w A L) :
    Calls Try.prog 18 #[.slice A n c, .int .i64 t, .int .i64 h] w (WinPost (wn L (winT n t h) (winH n h)) (winH n h) (winT n t h : Nat) w) := by
  obtain ⟨hh, hhh⟩ : ∃ x, x = winH n h := ⟨_, rfl⟩
  obtain ⟨tt, htt⟩ : ∃ x, x = winT n t h := ⟨_, rfl⟩
  rw [← hhh, ← htt]
  have e1 : (hh : Int) = min (max h 0) n := by rw [hhh]; unfold winH; omega
  have e2 : (tt : Int) = max (min t ((n : Int) - hh)) 0 := by rw [htt, hhh]; unfold winT; omega
  clear hhh htt
  by_cases h0 : h < 0
  · obtain rfl : hh = 0 := by omega
    by_cases hnn : 0 < n
    · rcases Int.lt_or_le t 0 with h1 | h1
      · obtain rfl : tt = 0 := by omega
        exact refWin_a2 A L n c hn hl t h 0 w hr h0 hnn h1 rfl
      · rcases Int.lt_or_le n t with h2 | h2
        · obtain rfl : tt = n := by omega
          exact refWin_a3 A L tt c hn hl t h 0 w hr h0 hnn h2 rfl
        · obtain rfl : t = tt := by omega
          exact refWin_a4 A L n c hn hl tt h 0 w hr h0 hnn (by omega) rfl
    · obtain rfl : tt = 0 := by omega
      exact refWin_a1 A L n c hn t h 0 w hr h0 (by omega) rfl
  · rcases Int.lt_or_le h n with h1 | h1
    · rcases Int.lt_or_le t 0 with h2 | h2
      · obtain rfl : tt = 0 := by omega
        exact refWin_b2 A L n c hn hl t h hh w hr (by omega) h1 h2 (by omega)
      · rcases Int.lt_or_le ((n : Int) - h) t with h3 | h3
        · exact refWin_b3 A L n c hn hl t h tt hh w hr (by omega) h1 h3 (by omega)
        · obtain rfl : t = tt := by omega
          exact refWin_b4 A L n c hn hl tt h _ hh w hr (by omega) h1 rfl h3 (by omega)
    · obtain rfl : hh = n := by omega
      obtain rfl : tt = 0 := by omega
      exact refWin_b1 A L hh c hn hl t h hh w hr h1 rfl
set_option maxRecDepth 100000 in
set_option maxHeartbeats 4000000 in
theorem foldWindows_law (A : Option Addr) (L : List T3) (n c : Nat) (hn : n = L.length) (hc : n ≤ c) (hA : A = none → c = 0) (t h : Int) (w : World) (hr : RK encI 3 w A L) :
    Calls Try.prog 5 #[.slice A n c, .int .i64 t, .int .i64 h] w fun e w' => e = .returned (.bool true) ∧ Below w.heap.size w w' := by
  have HAW := Lib.hid awake_any
  by_cases hl : n ≤ 200
  · have hli : ¬ (200 : Int) < n := by omega
    have HR := Lib.hid hr
    have HW := Lib.hid (fun W hr => window_any A L n c hn (by omega) hc hA t h W hr)
    have HV := Lib.hid (fun W hr => refWindow_any A L n c hn (by omega) t h W hr)
    have hml : winH n h = (wn L (winT n t h) (winH n h)).length := by
      have := win_le n t h
      unfold wn
      rw [List.length_take, List.length_drop]
      omega
    have HS : Hid (∀ A1 A2 c1 c2 W, RK encI 3 W A1 (wn L (winT n t h) (winH n h)) → RK encI 3 W A2 (wn L (winT n t h) (winH n h)) → Calls Try.prog 15 #[.slice A1 (winH n h) c1, .slice A2 (winH n h) c2] W fun e w' => e = .returned (.bool true) ∧ Below W.heap.size W w') := Lib.hid fun A1 A2 c1 c2 W h1 h2 => by
      have hle := win_le n t h
      have := same_any A1 A2 _ _ _ _ c1 c2 hml hml (by omega) W h1 h2
      rwa [decide_eq_true rfl] at this
    clear hr hn hc hA hml
    generalize wn L (winT n t h) (winH n h) = M at *
    generalize winH n h = m at *
    generalize ((winT n t h : Nat) : Int) = z at *
    go_enter Try.func5, Try.ntmps5
    go_wp2_with (first
      | (go_at_call 8; (with_reducible refine (HAW.out w).mono ?_); rintro e w1 ⟨rfl, hb⟩; have HR1 := Lib.hid (HR.out.past hb); have HB1 := Lib.hid hb; clear hb HR)
      | (go_at_call 17; (with_reducible refine (HW.out w1 HR1.out).mono ?_); rintro e w2 ⟨A2, c2, rfl, hq, hb⟩; have HR2 := Lib.hid (HR1.out.past hb); have HX2 := Lib.hid hq; have HB2 := Lib.hid (bel0 HB1.out hb); clear hb hq HR1 HB1 HW)
      | (go_at_call 18; (with_reducible refine (HV.out w2 HR2.out).mono ?_); rintro e w3 ⟨A3, c3, rfl, hq, hb⟩; have HX3 := Lib.hid (HX2.out.past hb); have HY3 := Lib.hid hq; have HB3 := Lib.hid (bel0 HB2.out hb); clear hb hq HR2 HB2 HX2 HV)
      | (go_at_call 15; (with_reducible refine (HS.out A2 A3 c2 c3 w3 HX3.out HY3.out).mono ?_); rintro e w4 ⟨rfl, hb⟩; have HB4 := Lib.hid (bel0 HB3.out hb); clear hb HX3 HY3 HB3 HS))
    go_ret
    exact ⟨rfl, HB4.out⟩
  · have hli : (200 : Int) < n := by omega
    clear hr hn hc hA
    go_enter Try.func5, Try.ntmps5
    go_wp2_with (go_at_call 8; (with_reducible refine (HAW.out w).mono ?_); rintro e w1 ⟨rfl, hb⟩; have HB1 := Lib.hid hb; clear hb)
    go_ret
    exact ⟨rfl, HB1.out⟩

end Go.Proofs.Ytnnmliblnmijdaa
