/- The walk of hunt.instead, which defers a recover. -/
import Derived.Test.YtjifekdjkjnefaaL2
import Derived.WalkKit
import Derived.Defers
import Derived.Recover
namespace Go.Proofs.Ytjifekdjkjnefaa
open Go.RowKit

/-- The deferred closure, of a frame that returns. -/
theorem catchIdle (w : World) : CallsD Try.prog 39 #[] .returning w fun e u' w' => e = .returned (.tuple #[]) ∧ u' = .returning ∧ w' = w := by
  refine callsD_of_wpS Try.func39 rfl fun c₀ cs hu => ?_
  apply wpS_region
  cases c₀
  simp_all [wpOpsS, go_sem, recoverD, Try.ntmps39, bodyPostS, results, Try.results39]
set_option maxRecDepth 100000 in
theorem insteadNil_any (k : Nat) (w : World) : Calls Try.prog 31 #[.nilFunc, .int .i64 k] w fun e w' => e = .returned (.string ⟨#[]⟩) ∧ Below w.heap.size w w' := by
  have HB := Lib.hid (Below.refl w.heap.size w)
  have hnil : ∀ w : World, (binOp BinOp.eql 39 .nilFunc .nilFunc).run Try.prog w = .ok (.bool true) w := fun _ => by kernel_rfl
  go_enter_defers Try.func31, Try.ntmps31
  go_wp2
  refine leaves_cons (f := 39) (args := #[]) (by simp) (by simp [go_sem]) ?_
  refine (catchIdle _).mono ?_
  rintro e u' w'' ⟨rfl, rfl, rfl⟩
  exact ⟨_, results_tmp rfl _ _ _, rfl, HB.out⟩
/-- The law's own function: with's texts, by number. -/
def sayL (Ws : List (List UInt8)) (k : Nat) : List UInt8 := if k < Ws.length then nAt Ws k else [63]
set_option maxRecDepth 100000 in
set_option maxHeartbeats 2000000 in
theorem say_any (Ws : List (List UInt8)) (k b n c : Nat) (A : Option Addr) (hn : n = Ws.length) (W : World) (hb : W.cell? ⟨b, 0, none⟩ = some (.slice A n c)) (hR : RT W W.heap.size A Ws) : Calls Try.prog 20 #[.int .i64 (k : Nat), .pointer (some ⟨b, 0, none⟩)] W fun e w' => e = .returned (.string (bsB (sayL Ws k))) ∧ ∃ m, w' = W.drewN m := by
  have h0 : (0 : Int) ≤ k := by omega
  by_cases hlt : k < n
  · have hki : (k : Int) < n := by omega
    obtain ⟨g, off, rfl, hgl, hc⟩ := hR (fun e => by rw [e] at hn; simp at hn; omega)
    have hck := hc k (by rw [← hn]; exact hlt)
    have hs : sayL Ws k = nAt Ws k := by unfold sayL; rw [if_pos (by rw [← hn]; exact hlt)]
    rw [hs]
    clear hc hs hn
    generalize bsB (nAt Ws k) = sK at *
    go_enter Try.func20, Try.ntmps20
    go_wp2
    go_ret
    exact ⟨rfl, 0, rfl⟩
  · have hki : ¬ (k : Int) < n := by omega
    have hs : bsB (sayL Ws k) = ⟨#[63]⟩ := by unfold sayL; rw [if_neg (by rw [← hn]; exact hlt)]; rfl
    rw [hs]
    clear hs hn hR
    go_enter Try.func20, Try.ntmps20
    go_wp2
    go_ret
    exact ⟨rfl, 0, rfl⟩
set_option maxRecDepth 100000 in
theorem insteadSay_any (b k : Nat) (v : ByteArray) (w : World) (hc : Calls Try.prog 20 #[.int .i64 (k : Nat), .pointer (some ⟨b, 0, none⟩)] w fun e w' => e = .returned (.string v) ∧ ∃ m, w' = w.drewN m) : Calls Try.prog 31 #[.func (.func 20) #[] #[.pointer (some ⟨b, 0, none⟩)], .int .i64 k] w fun e w' => e = .returned (.string v) ∧ ∃ m, w' = w.drewN m := by
  have HC := Lib.hid hc
  clear hc
  have hne : ∀ w : World, (binOp BinOp.eql 39 (.func (.func 20) #[] #[.pointer (some ⟨b, 0, none⟩)]) .nilFunc).run Try.prog w = .ok (.bool false) w := fun _ => by kernel_rfl
  go_enter_defers Try.func31, Try.ntmps31
  go_wp2_with (go_at_call 20; (with_reducible refine (HC.out).mono ?_); rintro e w2 ⟨rfl, hb2⟩; have HB2 := Lib.hid hb2; clear hb2)
  refine leaves_cons (f := 39) (args := #[]) (by simp) (by simp [go_sem]) ?_
  refine (catchIdle _).mono ?_
  rintro e u' w'' ⟨rfl, rfl, rfl⟩
  exact ⟨_, results_tmp rfl _ _ _, rfl, HB2.out⟩

end Go.Proofs.Ytjifekdjkjnefaa
