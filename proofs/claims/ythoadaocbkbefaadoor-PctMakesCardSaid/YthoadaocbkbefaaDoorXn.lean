/- What the ten listed variables give: the error, the table of folds; a start that fits. -/
import Derived.Test.YthoadaocbkbefaaDoorRows
import Derived.Test.YthoadaocbkbefaaDoorXl
import Derived.ProofKit
import Derived.LaidMore
import Derived.OpenShut
import Derived.Stop.Joined
import Derived.Lay
import Derived.Stop.LaidErr
import Derived.Lib.LaidTab
import Derived.HandedShaped
namespace Go.Proofs.YthoadaocbkbefaaDoor
open Go.ChangeShapes Go.WideShapes Go.ChangeAt Go.WideMaps Go.WideElems Go.RowKit

def laidX : List (String × DataW Unit) := [("math/bits.deBruijn32tab", Rows.laid_math_bits_deBruijn32tab), ("math/bits.deBruijn64tab", Rows.laid_math_bits_deBruijn64tab), ("internal/strconv.uint64pow10", Rows.laid_internal_strconv_uint64pow10), ("unicode/utf8.acceptRanges", Rows.laid_unicode_utf8_acceptRanges), ("strconv.ErrRange", Rows.laid_strconv_ErrRange), ("strconv.ErrSyntax", Rows.laid_strconv_ErrSyntax), ("unicode.asciiFold", Rows.laid_unicode_asciiFold), ("unicode.caseOrbit", Rows.laid_unicode_caseOrbit), ("unicode.CaseRanges", Rows.laid_unicode_CaseRanges), ("unicode/utf8.first", Rows.laid_unicode_utf8_first)]
def foldTab : List Int := (List.range 128).map fun k => ((foldT k : Nat) : Int)
theorem gFold : Tryd.prog.globalNamed "unicode.asciiFold" = some 0 := by kernel_rfl
theorem tFold : (Tryd.prog.globals[0]?).map (·.type) = some 64 := by kernel_rfl
theorem foldD : (Rows.laid_unicode_asciiFold : DataW Unit) = Lib.tabData .u16 foldTab := by kernel_rfl
theorem cU16 : Tryd.prog.cellsOf 63 = 1 := by kernel_rfl
theorem cFold : Tryd.prog.cellsOf 64 = 128 := by kernel_rfl
theorem gErr : Tryd.prog.globalNamed "strconv.ErrSyntax" = some 6 := by kernel_rfl
theorem starErr : "*" ++ "errors.errorString" = "*errors.errorString" := by decide
theorem rowErr (u : TypeId) (h : Tryd.prog.typeName? 3 u = some "*errors.errorString") : u = 95 :=
  typeName_ptr_named (nm := "errors.errorString") (by rw [starErr]; kernel_rfl) (by kernel_rfl) (by decide) u (by rw [starErr]; exact h)
theorem mt_of_laid {W : World} (h : laidMetH Tryd.prog laidX W) : MT W := by
  rw [MakeChecks.laidMetH_plain _ _ _ (by kernel_rfl)] at h
  have h6 := laidMet.tail (laidMet.tail (laidMet.tail (laidMet.tail (laidMet.tail h))))
  obtain ⟨a, s, hv, _, _, _⟩ := laid_sentinel (g := 6) (ti := 49) (tp := 95) (te := 97) (ts := 9) h6 gErr (by kernel_rfl) Tryd.underlying49 rowErr Tryd.underlying95 Tryd.underlying97 rfl rfl Tryd.underlying9 (by kernel_rfl) (by kernel_rfl)
  have hE : EV W := ⟨_, _, by have h0 := World.var?_cell gErr hv 0; simpa using h0⟩
  have h7 := laidMet.tail h6
  rw [foldD] at h7
  have ht := Lib.tabIs_of_head gFold tFold Tryd.underlying64 Tryd.underlying63 cU16 cFold h7
  refine ⟨hE, fun k hk => ?_⟩
  have hc := World.var?_cell gFold ht k
  rw [hc]
  unfold foldTab
  simp [hk]
/-- A start that fits: all ten as they are listed. -/
theorem startX_met (os : Os) (args : Array Value) : laidMetH Tryd.prog laidX ((World.laidAll Tryd.prog os laidX).forCall (fun _ _ => 0) ⟨#[], args, []⟩).memory := by
  rw [MakeChecks.laidMetH_plain _ _ _ (by kernel_rfl)]
  exact laidMet_laidAll _ (by kernel_rfl) (by kernel_rfl)
theorem own : ownKnob Tryd.prog.godebug = none := by kernel_rfl
theorem laidOut : laidOutB Tryd.prog = true := by kernel_rfl
theorem size_of_wf {s : ByteArray} (h : s.size ≤ maxLen) : s.data.toList.length ≤ 9223372036854775807 := by
  rw [← Lib.size_eq]
  unfold maxLen at h
  omega
theorem pctLays_str (s : ByteArray) (hs : s.size ≤ maxLen) (w : World) (hM : MT w) : Calls Tryd.prog 3 #[.string s] w fun e w' => e = .returned (.bool true) ∧ Below w.heap.size w w' := by
  have h := pctLays_law s.data.toList (size_of_wf hs) w hM
  rwa [← bs_of s] at h
theorem pctTakes_str (s : ByteArray) (hs : s.size ≤ maxLen) (w : World) (hM : MT w) : Calls Tryd.prog 4 #[.string s] w fun e w' => e = .returned (.bool true) ∧ Below w.heap.size w w' := by
  have h := pctTakes_law s.data.toList (size_of_wf hs) w hM
  rwa [← bs_of s] at h
theorem pctFiles_str (s : ByteArray) (hs : s.size ≤ maxLen) (w : World) (hM : MT w) : Calls Tryd.prog 5 #[.string s] w fun e w' => e = .returned (.bool true) ∧ Below w.heap.size w w' := by
  have h := pctFiles_law s.data.toList (size_of_wf hs) w hM
  rwa [← bs_of s] at h
theorem pctJoins_str (s t : ByteArray) (hs : s.size ≤ maxLen) (ht : t.size ≤ maxLen) (w : World) (hM : MT w) : Calls Tryd.prog 7 #[.string s, .string t] w fun e w' => e = .returned (.bool true) ∧ Below w.heap.size w w' := by
  have h := pctJoins_law s.data.toList t.data.toList (size_of_wf hs) (size_of_wf ht) w hM
  rwa [← bs_of s, ← bs_of t] at h
end Go.Proofs.YthoadaocbkbefaaDoor
