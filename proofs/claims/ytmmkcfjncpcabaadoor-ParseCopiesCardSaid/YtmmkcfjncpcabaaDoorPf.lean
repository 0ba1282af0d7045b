/- The walks of Parse's outer function, of pieces with it, and of Parse. -/
import Derived.Test.YtmmkcfjncpcabaaDoorPe
import Derived.Test.YtmmkcfjncpcabaaDoorPb
namespace Go.Proofs.YtmmkcfjncpcabaaDoor
open Go.RowKit

/-- The variable of the groups lies in block lb. -/
structure OI (w0 W : World) (lb : Nat) (L : List (List Int)) (vl : Value) : Prop where
  below : Below lb w0 W
  cell : W.heap[lb]? = some (.cells #[vl] 39 (0, 0))
  own : ∃ vals, W.ownsRow (lb + 1) 48 1 vl L.length vals ∧ RW W (lb + 1) W.heap.size L vals
theorem OI.past {w0 W W' : World} {lb : Nat} {L : List (List Int)} {vl : Value} (h : OI w0 W lb L vl) (hb : Below W.heap.size W W') : OI w0 W' lb L vl := by
  obtain ⟨vals, h1, h2⟩ := h.own
  exact ⟨h.below.trans (hb.mono (Nat.le_of_lt (lt_of_block h.cell))), (hb.block lb (lt_of_block h.cell)).trans h.cell, vals, own_past h1 hb, (h2.past hb).mono hb.size⟩
theorem belA' {a w : World} {B : Nat} (h : Below B a w) (hB : B < w.heap.size) {o : Obj} : Below B a (w.alloc o) := h.alloc (Nat.le_of_lt hB) _
theorem alloc_block {w : World} {k : Nat} {o o' : Obj} (h : w.heap[k]? = some o) : (w.alloc o').heap[k]? = some o := (Below.heap_alloc w o' k (lt_of_block h)).trans h
theorem rw_alloc {w : World} {B : Nat} {L : List (List Int)} {vals : List Value} (h : RW w B w.heap.size L vals) {o : Obj} : RW (w.alloc o) B (w.alloc o).heap.size L vals := (h.past (belA (Below.refl _ _) o)).mono (by simp)
theorem ne_iii : 39 ≠ 3 := by decide
theorem kept_type {w w' : World} {B : Nat} {e t : TypeId} {z n : Nat} {v : Value} {xs : List Value} {g : Nat} {cs : Array Value} {fr : Nat × Nat} (h : w.ownsRow B e z v n xs) (hg : w.grownBy w' (some g)) (ht : w.heap[g]? = some (.cells cs t fr)) (hne : t ≠ e) : w'.ownsRow B e z v n xs :=
  h.kept hg (by
    cases hv : v.ownBlock with
    | none => exact .inl rfl
    | some b =>
      refine .inr (fun e2 => ?_)
      obtain ⟨c1, h1⟩ := own_type h hv
      injection e2 with e2
      subst e2
      rw [ht] at h1
      simp at h1
      exact hne h1.2.1)
theorem RW.keptO {w w' : World} {B C B' : Nat} {L : List (List Int)} {vals : List Value} {v : Value} {n : Nat} {xs : List Value} (h : RW w B C L vals) (ho : w.ownsRow B' 48 1 v n xs) (hg : w.grownBy w' v.ownBlock) : RW w' B C L vals := by
  cases hv : v.ownBlock with
  | none =>
    rw [hv] at hg
    exact h.keptC hg (fun g e => by cases e)
  | some g =>
    rw [hv] at hg
    obtain ⟨c1, h1⟩ := own_type ho hv
    exact h.keptT hg h1 ne_ii
theorem OI.grow {w0 W w5 : World} {lb : Nat} {L : List (List Int)} {vl vg v2 : Value} {xs : List Int} {vals : List Value} (hb : Below lb w0 W) (hc : W.heap[lb]? = some (.cells #[vl] 39 (0, 0))) (ho : W.ownsRow (lb + 1) 48 1 vl L.length vals) (hr : RW W (lb + 1) W.heap.size L vals) (hgr : W.ownsRow (lb + 1) 3 1 vg xs.length (xs.map (Value.int .i64)))
    (hg : W.grownBy w5 vl.ownBlock) (h2 : w5.ownsRow (lb + 1) 48 1 v2 (L.length + 1) (vals ++ [vg])) :
    w5.cell? ⟨lb, 0, none⟩ = some vl ∧ w5.frozen? ⟨lb, 0, none⟩ = false ∧ OI w0 (w5.setCell ⟨lb, 0, none⟩ v2) lb (L ++ [xs]) v2 := by
  have hlt := lt_of_block hc
  have hne : some lb ≠ vl.ownBlock := fun e => by have := (ho.lt lb e.symm).1; omega
  have hc5 : w5.heap[lb]? = some (.cells #[vl] 39 (0, 0)) := (hg.block lb hlt hne).trans hc
  have hb5 : Below lb w0 w5 := hb.grown hg (Nat.le_of_lt hlt) (fun k e => by have := (ho.lt k e).1; omega)
  have hr5 := (hr.keptO ho hg).mono hg.size
  have hg5 : w5.ownsRow (lb + 1) 3 1 vg xs.length (xs.map (Value.int .i64)) := by
    cases hv : vl.ownBlock with
    | none =>
      rw [hv] at hg
      exact hgr.kept hg (by cases vg.ownBlock <;> simp)
    | some g =>
      rw [hv] at hg
      obtain ⟨c1, h1⟩ := own_type ho hv
      exact kept_type hgr hg h1 ne_ii
  have hs : w5.grownBy (w5.setCell ⟨lb, 0, none⟩ v2) (some lb) := ⟨rfl, rfl, rfl, by simp, fun k _ hne => heap_setCell_other w5 ⟨lb, 0, none⟩ k v2 (fun e => hne (by rw [e]))⟩
  refine ⟨cell_of_one hc5, free_of_one hc5, hb5.setCell (p := ⟨lb, 0, none⟩) (Nat.le_refl _) _, one_setCell hc5, vals ++ [vg], ?_, ?_⟩
  · rw [List.length_append]
    exact h2.kept hs (.inr (fun e => by have := (h2.lt lb e).1; omega))
  · have h := (hr5.snoc hg5 (fun b hb => (hg5.lt b hb).2)).keptT hs hc5 ne_iii
    exact h.mono (by simp)
/-- The first eight values of a group. -/
def GV (g : List UInt8) : List Int := ((splitB 58 g).take 8).map numZ

def CloPost (l : List UInt8) (w0 : World) (lb : Nat) (L : List (List Int)) (e : Ending) (w' : World) : Prop := ∃ v', e = .returned (.tuple #[]) ∧ OI w0 w' lb (L ++ [GV l]) v'
set_option maxRecDepth 100000 in
set_option maxHeartbeats 2000000 in
theorem clo1_any (s : ByteArray) (lb : Nat) (L : List (List Int)) (vl : Value) (w0 w : World) (hI : OI w0 w lb L vl) (hx : L.length ≤ 1000000) (hs : s.size ≤ 1000000) (hd : ∀ x ∈ s.data.toList, 48 ≤ x.toNat ∧ x.toNat ≤ 58) (ml : Int) (hm : w0.cell? ⟨2, 0, none⟩ = some (.int .i64 ml)) (hmb : 2 < lb) :
    Calls Tryd.prog 67 #[.string s, .pointer (some ⟨lb, 0, none⟩)] w (CloPost s.data.toList w0 lb L) := by
  obtain ⟨i1, hi1, hy0, hy1, hy2⟩ := info_parts Tryd.infoInts
  have hlt := lt_of_block hI.cell
  obtain ⟨vals, ho, hr⟩ := hI.own
  have HI := Lib.hid hI
  have HO := Lib.hid ho
  have HR := Lib.hid hr
  have hGI : GI w (w.alloc (.cells #[.slice none 0 0] 48)) w.heap.size [] (.slice none 0 0) := ⟨belA (Below.refl _ _) _, heap_alloc_new w _, World.ownsRow_nil _ _ _ _⟩
  have HP := Lib.hid (piecesIn_any s w.heap.size w (w.alloc (.cells #[.slice none 0 0] 48)) _ hGI hs hd ml ((hI.below.cell (p := ⟨2, 0, none⟩) hmb).trans hm) (Nat.lt_trans hmb hlt))
  have HV : Hid (((splitB 58 s.data.toList).take 8).map numZ = GV s.data.toList) := Lib.hid rfl
  generalize hl : s.data.toList = l at *
  clear hl
  obtain ⟨xs, hxs⟩ : ∃ xs, GV l = xs := ⟨_, rfl⟩
  have HXS : Hid (∀ w2 vg, GI w w2 w.heap.size (((splitB 58 l).take 8).map numZ) vg → Below w.heap.size w w2 ∧ w2.cell? ⟨w.heap.size, 0, none⟩ = some vg ∧ w2.ownsRow (lb + 1) 3 1 vg xs.length (xs.map (Value.int .i64)) ∧ OI w0 w2 lb L vl ∧ w2.ownsRow (lb + 1) 48 1 vl L.length vals ∧ RW w2 (lb + 1) w2.heap.size L vals) := Lib.hid fun w2 vg h => by
    rw [HV.out, hxs] at h
    have hB : Below w.heap.size w w2 := h.below
    exact ⟨hB, cell_of_one h.cell, own_mono h.own (by omega), hI.past hB, own_past ho hB, (hr.past hB).mono hB.size⟩
  have HXE := Lib.hid hxs
  clear hI hd hs hm ho hr hGI hxs
  unfold CloPost
  obtain ⟨Al, cl, hvl, _⟩ := own_form HO.out
  subst hvl
  have hcl := cell_of_one HI.out.cell
  go_enter Tryd.func67, Tryd.ntmps67
  go_wp2_with (first
    | (go_at_call 66; (with_reducible refine HP.out.mono ?_); rintro e w2 ⟨vg, rfl, h2⟩; obtain ⟨hB2, hcg, hog, hoi, how, hrw⟩ := HXS.out w2 vg h2; obtain ⟨Ag, cg, rfl, _⟩ := own_form hog; have hcl2 := cell_of_one hoi.cell; have HOG := Lib.hid hog; have HOI := Lib.hid hoi; have HOW := Lib.hid how; have HRW := Lib.hid hrw; have hz2 := hB2.size; clear h2 hB2 hog hoi how hrw)
    | (at_builtin; go_must (refine wpList_append_own _ rfl _ _ 39 rfl (lb + 1) 48 i1 (.slice none 0 0) 1 24 Tryd.underlying39 hi1 hy0 hy1 hy2 rfl (by decide) (.slice Al L.length cl) L.length vals rfl (HOW.out.alloc _) ⟨w2.heap.size, 0, none⟩ 1 1 [.slice Ag xs.length cg] rfl rfl (news1 w2 _ _) (by simp [Value.oneCell']) (by unfold maxLen; omega) (by omega) (by simp; omega) ?_; intro v2 w5 hown2 hgrow2 _; obtain ⟨A5, c5, rfl, _⟩ := own_form hown2; obtain ⟨hc5, hf5, hp5⟩ := OI.grow (xs := xs) (belA' HOI.out.below (lt_of_block HOI.out.cell)) (alloc_block HOI.out.cell) (HOW.out.alloc _) (rw_alloc HRW.out) (HOG.out.alloc _) hgrow2 hown2; have HP5 := Lib.hid hp5; clear hown2 hgrow2 hp5)))
  go_end0
  exact ⟨_, rfl, by rw [HXE.out]; exact HP5.out⟩

def piecesOut_anyPost (l : List UInt8) (w0 : World) (gb : Nat) (e : Ending) (w' : World) : Prop := ∃ v', e = .returned (.tuple #[]) ∧ OI w0 w' gb (((splitB 59 l).take 32).map GV) v'
set_option maxRecDepth 100000 in
set_option maxHeartbeats 4000000 in
theorem piecesOut_any (s : ByteArray) (gb : Nat) (w0 w : World) (vg : Value) (hI : OI w0 w gb [] vg) (hs : s.size ≤ 1000000) (hd : ∀ x ∈ s.data.toList, 48 ≤ x.toNat ∧ x.toNat ≤ 59) (ml : Int) (hm : w0.cell? ⟨2, 0, none⟩ = some (.int .i64 ml)) (hmb : 2 < gb) :
    Calls Tryd.prog 66 #[.string s, .string ⟨#[59]⟩, .int .i64 32, .func (.func 67) #[] #[.pointer (some ⟨gb, 0, none⟩)]] w (piecesOut_anyPost s.data.toList w0 gb) := by
  have HS := Lib.hid hI
  have HD := Lib.hid hd
  have HM := Lib.hid hm
  have HSZ : Hid (s.data.toList.length ≤ 1000000) := Lib.hid (by simpa using hs)
  clear hI hd hm
  go_enter Tryd.func66, Tryd.ntmps66
  go_wp2
  go_loopw [0, 8, 9] (fun r m n wr => ∃ (k : Nat) (rs : ByteArray) (mb : Bool) (done : List (List UInt8)) (v : Value), r = .string rs ∧ m = .bool mb ∧ n = .int .i64 k ∧ k ≤ 32 ∧ rs.size ≤ 1000000 ∧ Hid (done.length = k) ∧ Hid (OI w0 wr gb (done.map GV) v) ∧ Hid (splitB 59 s.data.toList = if mb then done ++ splitB 59 rs.data.toList else done)) (fun _ _ n _ => 32 - (intOf n).toNat)
  case atStart => exact ⟨0, s, true, [], vg, rfl, rfl, rfl, Nat.zero_le _, hs, Lib.hid rfl, HS, Lib.hid rfl⟩
  case round =>
    obtain ⟨k, rs, mb, done, v, rfl, rfl, rfl, hk, hrs, HK, HG, HZ⟩ := hrel
    cases mb with
    | false =>
      have HE : Hid (((splitB 59 s.data.toList).take 32).map GV = done.map GV) := Lib.hid (by
        have h := HZ.out
        rw [if_neg (by decide)] at h
        rw [h, List.take_of_length_le (by rw [HK.out]; exact hk)])
      go_wp2
      go_end0
      exact ⟨v, rfl, by rw [HE.out]; exact HG.out⟩
    | true =>
      by_cases hlt : k < 32
      · have hki : (k : Int) < 32 := by omega
        have hcut := cut_split 59 rs.data.toList
        have hcl := cut_len 59 rs.data.toList
        have HB := Lib.hid HG.out.below
        have HC : Hid (Calls Tryd.prog 79 #[.string rs, .string ⟨#[59]⟩] wr fun e w' => e = .returned (.tuple #[.string ⟨(Lib.cut rs.data.toList [59]).1.toArray⟩, .string ⟨(Lib.cut rs.data.toList [59]).2.1.toArray⟩, .bool (Lib.cut rs.data.toList [59]).2.2]) ∧ Below wr.heap.size wr w') := Lib.hid
          ((Tryd.strings_Cut rs ⟨#[59]⟩ ml wr (by omega) ((HG.out.below.cell (p := ⟨2, 0, none⟩) hmb).trans HM.out)).mono fun e w' ⟨h1, n, h2⟩ => ⟨h1, h2 ▸ below_drewN (Below.refl _ _) n⟩)
        generalize Lib.cut rs.data.toList [59] = t at *
        obtain ⟨a, b, f⟩ := t
        have HCUT := Lib.hid hcut
        have hal : a.length ≤ 1000000 := by
          have := hcl.1
          simp at this
          omega
        have hbl : b.length ≤ 1000000 := by
          have := hcl.2
          simp at this
          omega
        have HA : Hid (a ∈ splitB 59 s.data.toList) := Lib.hid (by
          have h := HZ.out
          rw [if_pos rfl] at h
          rw [h]
          rcases HCUT.out with ⟨_, h2⟩ | ⟨_, h2, h3, _⟩
          · rw [h2]; simp
          · rw [h2]
            simp only at h3
            rw [← h3]; simp)
        have HAD : Hid (∀ x ∈ a, 48 ≤ x.toNat ∧ x.toNat ≤ 58) := Lib.hid fun x hx => by
          have h1 := HD.out x (split_in 59 _ a HA.out x hx)
          have h2 : x ≠ 59 := fun e => split_out 59 _ a HA.out (e ▸ hx)
          have h3 : x.toNat ≠ 59 := fun e => h2 (UInt8.toNat_inj.1 (by rw [e]; rfl))
          omega
        have HCL : Hid (∀ W, Below wr.heap.size wr W → Calls Tryd.prog 67 #[.string ⟨a.toArray⟩, .pointer (some ⟨gb, 0, none⟩)] W fun e w' => ∃ v', e = .returned (.tuple #[]) ∧ OI w0 w' gb (done.map GV ++ [GV a]) v') := Lib.hid fun W hW => by
          have h := clo1_any ⟨a.toArray⟩ gb (done.map GV) v w0 W (HG.out.past hW) (by rw [List.length_map, HK.out]; omega) (by simpa [ByteArray.size] using hal) (by simpa using HAD.out) ml HM.out hmb
          exact h.mono fun e w' ⟨v', h1, h2⟩ => ⟨v', h1, by simpa using h2⟩
        have HSN : Hid (done.map GV ++ [GV a] = (done ++ [a]).map GV) := Lib.hid (by simp)
        have HK1 : Hid ((done ++ [a]).length = k + 1) := Lib.hid (by rw [List.length_append, HK.out]; rfl)
        have HZ1 : Hid (splitB 59 s.data.toList = if f then (done ++ [a]) ++ splitB 59 b else done ++ [a]) := Lib.hid (by
          have h := HZ.out
          rw [if_pos rfl] at h
          rw [h]
          rcases HCUT.out with ⟨h1, h2⟩ | ⟨h1, h2, h3, _⟩
          · simp only at h1
            subst h1
            rw [if_pos rfl, h2]
            simp
          · simp only at h1 h3
            subst h1
            rw [if_neg (by decide), h2, ← h3])
        have hbz : (⟨b.toArray⟩ : ByteArray).size ≤ 1000000 := by simpa [ByteArray.size] using hbl
        have hbd : Hid ((⟨b.toArray⟩ : ByteArray).data.toList = b) := Lib.hid (by simp)
        simp only at HC
        have hmk : decide (k < 32) = true := decide_eq_true hlt
        clear hcut hcl HCUT hal hbl HA HAD HZ HK HD HM HG hlt
        obtain ⟨pa, hpa⟩ : ∃ pa : ByteArray, pa = ⟨a.toArray⟩ := ⟨_, rfl⟩
        obtain ⟨pb, hpb⟩ : ∃ pb : ByteArray, pb = ⟨b.toArray⟩ := ⟨_, rfl⟩
        rw [← hpa] at HC HCL
        rw [← hpb] at HC hbz hbd
        clear hpa hpb
        go_wp2_with (first
          | (go_at_call 79; (with_reducible refine HC.out.mono ?_); rintro e w3 ⟨rfl, hb3⟩; have HB3 := Lib.hid hb3; clear hb3)
          | (go_at_call 67; (with_reducible refine (HCL.out _ HB3.out).mono ?_); rintro e w4 ⟨v4, rfl, h4⟩; have HG4 := Lib.hid h4; clear h4))
        go_roundw
        case rel => exact ⟨k + 1, pb, f, done ++ [a], v4, rfl, rfl, by go_num, by omega, hbz, HK1, by rw [← HSN.out]; exact HG4, by rw [hbd.out]; exact HZ1⟩
        case measure => simp [intOf]; omega
      · obtain rfl : k = 32 := by omega
        have HE : Hid (((splitB 59 s.data.toList).take 32).map GV = done.map GV) := Lib.hid (by
          have h := HZ.out
          rw [if_pos rfl] at h
          rw [h, ← HK.out, List.take_left])
        clear hk
        go_wp2
        go_end0
        exact ⟨v, rfl, by rw [HE.out]; exact HG.out⟩

theorem GZ_HZ (l : List UInt8) : ((splitB 59 l).take 32).map GV = HZ l := by
  unfold HZ GZ GV
  rw [← List.map_take, List.map_map]
  apply List.map_congr_left
  intro g _
  simp
theorem dropWhile_nil {p : UInt8 → Bool} : ∀ {l : List UInt8}, l.dropWhile p = [] → ∀ x ∈ l, p x = true
  | [], _, x, hx => by simp at hx
  | y :: r, h, x, hx => by
    rw [List.dropWhile_cons] at h
    by_cases hy : p y = true
    · rw [if_pos hy] at h
      rcases List.mem_cons.1 hx with rfl | hx
      · exact hy
      · exact dropWhile_nil h x hx
    · rw [if_neg hy] at h
      simp at h
theorem dropWhile_all {p : UInt8 → Bool} : ∀ {l : List UInt8}, (∀ x ∈ l, p x = true) → l.dropWhile p = []
  | [], _ => rfl
  | y :: r, h => by
    rw [List.dropWhile_cons, if_pos (h y List.mem_cons_self)]
    exact dropWhile_all fun x hx => h x (List.mem_cons_of_mem _ hx)
def headCs : List UInt8 := [48, 49, 50, 51, 52, 53, 54, 55, 56, 57, 59, 58]
theorem head_contains : ∀ x : UInt8, headCs.contains x = headB x := by
  intro x
  have h : ∀ n : Fin 256, headCs.contains (UInt8.ofNat n) = headB (UInt8.ofNat n) := by decide +kernel
  have := h ⟨x.toNat, x.toNat_lt⟩
  simpa using this
theorem trim_head (l : List UInt8) : (Lib.trimS l headCs = []) ↔ headL l = true := by
  have hp : (headCs.contains ·) = headB := funext head_contains
  unfold Lib.trimS Lib.trimLeftS Lib.trimRightS headL
  rw [hp]
  constructor
  · intro h
    have h1 := dropWhile_nil h
    by_cases hz : l.reverse.dropWhile headB = []
    · have h2 := dropWhile_nil hz
      exact List.all_eq_true.2 fun x hx => h2 x (by simpa using hx)
    · exfalso
      have hd : ∀ (m : List UInt8), m.dropWhile headB ≠ [] → ∃ x ∈ m.dropWhile headB, headB x = false := by
        intro m hm
        have := List.head_dropWhile_not headB hm
        exact ⟨_, List.head_mem hm, by simpa using this⟩
      obtain ⟨x, hx, hx2⟩ := hd _ hz
      have := h1 x (by simpa using hx)
      rw [hx2] at this
      simp at this
  · intro h
    have h2 := List.all_eq_true.1 h
    rw [dropWhile_all (l := l.reverse) (fun x hx => h2 x (by simpa using hx))]
    rfl

set_option maxRecDepth 100000 in
set_option maxHeartbeats 2000000 in
theorem parse_any (s : ByteArray) (w : World) (hs : s.size ≤ 1000000) (ml : Int) (hm : w.cell? ⟨2, 0, none⟩ = some (.int .i64 ml)) :
    Calls Tryd.prog 57 #[.string s] w (ParsePost s.data.toList w) := by
  have HT : Hid (Calls Tryd.prog 65 #[.string s, .string ⟨#[48, 49, 50, 51, 52, 53, 54, 55, 56, 57, 59, 58]⟩] w fun e w' => e = .returned (.string ⟨(Lib.trimS s.data.toList headCs).toArray⟩) ∧ Below w.heap.size w w') :=
    Lib.hid (Tryd.strings_Trim s ⟨#[48, 49, 50, 51, 52, 53, 54, 55, 56, 57, 59, 58]⟩ w (by omega) (by decide) (ascii_of_all (by decide)))
  have HTR := Lib.hid (trim_head s.data.toList)
  obtain ⟨t, ht⟩ : ∃ t : ByteArray, t = ⟨(Lib.trimS s.data.toList headCs).toArray⟩ := ⟨_, rfl⟩
  have HTL : Hid (t.toList = Lib.trimS s.data.toList headCs) := Lib.hid (by rw [Lib.toList_data, ht])
  rw [← ht] at HT
  clear ht
  by_cases hh : headL s.data.toList = true
  · have h1 : t.toList = [] := by rw [HTL.out]; exact HTR.out.2 hh
    have h2 : t.toList.isEmpty = true := by rw [h1]; rfl
    have HH := Lib.hid hh
    have hd : ∀ x ∈ s.data.toList, 48 ≤ x.toNat ∧ x.toNat ≤ 59 := fun x hx => by
      have := List.all_eq_true.1 hh x hx
      simp [headB] at this
      omega
    have hml := block_lt_of_cell hm
    have HP : Hid (∀ w2, Below w.heap.size w w2 → Calls Tryd.prog 66 #[.string s, .string ⟨#[59]⟩, .int .i64 32, .func (.func 67) #[] #[.pointer (some ⟨w2.heap.size, 0, none⟩)]] (w2.alloc (.cells #[.slice none 0 0] 39)) (piecesOut_anyPost s.data.toList w2 w2.heap.size)) := Lib.hid fun w2 hb => by
      have hOI : OI w2 (w2.alloc (.cells #[.slice none 0 0] 39)) w2.heap.size [] (.slice none 0 0) := ⟨belA (Below.refl _ _) _, heap_alloc_new w2 _, [], World.ownsRow_nil _ _ _ _, RW.nil _ _ _⟩
      exact piecesOut_any s w2.heap.size w2 _ _ hOI hs hd ml ((hb.cell (p := ⟨2, 0, none⟩) hml).trans hm) (Nat.lt_of_lt_of_le hml hb.size)
    have HF : Hid (∀ w2 w3 v, Below w.heap.size w w2 → OI w2 w3 w2.heap.size (((splitB 59 s.data.toList).take 32).map GV) v → w3.cell? ⟨w2.heap.size, 0, none⟩ = some v ∧ (∃ A c, v = .slice A (HZ s.data.toList).length c ∧ RG w3 w3.heap.size A (HZ s.data.toList)) ∧ Below w.heap.size w w3) := Lib.hid fun w2 w3 v hb h => by
      rw [GZ_HZ] at h
      obtain ⟨vals, ho, hr⟩ := h.own
      obtain ⟨A, c, hv, _⟩ := own_form ho
      subst hv
      exact ⟨cell_of_one h.cell, ⟨A, c, rfl, RG.of_rows ho rfl hr⟩, hb.trans (h.below.mono hb.size)⟩
    clear hh hd hm hml HTL HTR
    unfold ParsePost
    generalize hl : s.data.toList = l at *
    clear hl
    go_enter Tryd.func57, Tryd.ntmps57
    go_wp2_with (first
      | (go_at_call 65; (with_reducible refine HT.out.mono ?_); rintro e w2 ⟨rfl, hb2⟩; have HB2 := Lib.hid hb2; clear hb2)
      | (go_at_call 66; (with_reducible refine (HP.out w2 HB2.out).mono ?_); rintro e w3 ⟨v3, rfl, h3⟩; obtain ⟨hc3, ⟨A3, c3, rfl, hr3⟩, hb3⟩ := HF.out w2 w3 v3 HB2.out h3; have HR3 := Lib.hid hr3; have HB3 := Lib.hid hb3; clear h3 hr3 hb3))
    go_ret2
    exact .inr ⟨HH.out, A3, c3, rfl, HR3.out, HB3.out⟩
  · have hne : t.toList ≠ [] := by
      rw [HTL.out]
      exact fun e => hh (HTR.out.1 e)
    have h2 : t.toList.isEmpty = false := by
      cases h : t.toList with
      | nil => exact absurd h hne
      | cons a b => rfl
    have HH : Hid (headL s.data.toList = false) := Lib.hid (by simpa using hh)
    clear hh hm HTL HTR hne
    unfold ParsePost
    generalize hl : s.data.toList = l at *
    clear hl
    go_enter Tryd.func57, Tryd.ntmps57
    go_wp2_with (go_at_call 65; (with_reducible refine HT.out.mono ?_); rintro e w2 ⟨rfl, hb2⟩; have HB2 := Lib.hid hb2; clear hb2)
    go_ret2
    exact .inl ⟨HH.out, rfl, HB2.out⟩

end Go.Proofs.YtmmkcfjncpcabaaDoor
