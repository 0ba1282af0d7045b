/- Methods of a queue that are called through an interface. -/
import Derived.Test.YtjifekdjkjnefaaR1
namespace Go.Proofs.Ytjifekdjkjnefaa
open Go.RowKit
theorem load_q (b : Nat) (w : World) (v : Value) (hc : w.cell? ⟨b, 0, none⟩ = some v) : (loadVar 47 ⟨b, 0, none⟩).run Try.prog w = .ok v w := by
  simp [loadVar, go_sem, hc]
theorem nilchk (a : Addr) (s s' : String) (w : World) (xt : TypeId) : (Builtin.ssaWrapNilChk_ #[xt] xt #[.pointer (some a), strVal s, strVal s']).run Try.prog w = .ok (.pointer (some a)) w := rfl
theorem recv_q (b : Nat) (w : World) (v : Value) (s : String) (hc : w.cell? ⟨b, 0, none⟩ = some v) : (receiverAt 53 (.val (.pointer (some ⟨b, 0, none⟩))) false (some s)).run Try.prog w = .ok v w := by
  have hu : (underlying 53).run Try.prog w = .ok (.pointer 47) w := by kernel_rfl
  have hl := load_q b w v hc
  have hn := nilchk ⟨b, 0, none⟩ "" s w 53
  unfold receiverAt
  rw [Sem.run_bind, hu]
  simp only [Result.andThen_ok, Place.get, Sem.run_bind, Sem.run_pure]
  rw [hn]
  simp only [Result.andThen_ok]
  rw [show (asAddr (.pointer (some ⟨b, 0, none⟩))).run Try.prog w = .ok ⟨b, 0, none⟩ w from rfl]
  exact hl
theorem meth_q (s : String) (f : FuncId) (h : (Try.prog.info? 53).map (fun i => (i.methods.find? (·.name == s)).map (fun m => (m.func, m.path.size))) = some (some (some (f, false), 0))) (b : Nat) (w : World) (v : Value) (hc : w.cell? ⟨b, 0, none⟩ = some v) : (method 197 53 (.pointer (some ⟨b, 0, none⟩)) s).run Try.prog w = .ok (f, v) w := by
  obtain ⟨i, hi, h1⟩ := Option.map_eq_some_iff.1 h
  obtain ⟨m, hm, h2⟩ := Option.map_eq_some_iff.1 h1
  obtain ⟨hf, hp⟩ := Prod.mk.injEq .. ▸ h2
  have hpath : m.path = #[] := Array.eq_empty_of_size_eq_zero hp
  have ht : (typeInfo 53).run Try.prog w = .ok i w := by simp [typeInfo, go_sem, hi]
  unfold method
  rw [Sem.run_bind, ht]
  simp only [Result.andThen_ok, hm, hpath, hf, follow, Sem.run_bind, Sem.run_pure]
  show ((receiverAt 53 (.val (.pointer (some ⟨b, 0, none⟩))) false (some ((s.splitOn ".").getLastD s))).run Try.prog w).andThen (fun a w' => _) = _
  rw [recv_q b w v _ hc]
  rfl
theorem meth_len (b : Nat) (w : World) (v : Value) (hc : w.cell? ⟨b, 0, none⟩ = some v) : (method 197 53 (.pointer (some ⟨b, 0, none⟩)) "Len").run Try.prog w = .ok (26, v) w := meth_q "Len" _ (by kernel_rfl) b w v hc
theorem meth_less (b : Nat) (w : World) (v : Value) (hc : w.cell? ⟨b, 0, none⟩ = some v) : (method 197 53 (.pointer (some ⟨b, 0, none⟩)) "Less").run Try.prog w = .ok (62, v) w := meth_q "Less" _ (by kernel_rfl) b w v hc
theorem meth_swap (b : Nat) (w : World) (v : Value) (hc : w.cell? ⟨b, 0, none⟩ = some v) : (method 197 53 (.pointer (some ⟨b, 0, none⟩)) "Swap").run Try.prog w = .ok (63, v) w := meth_q "Swap" _ (by kernel_rfl) b w v hc
theorem meth_push (b : Nat) (w : World) : (method 197 53 (.pointer (some ⟨b, 0, none⟩)) "Push").run Try.prog w = .ok (65, .pointer (some ⟨b, 0, none⟩)) w := by kernel_rfl
theorem meth_pop (b : Nat) (w : World) : (method 197 53 (.pointer (some ⟨b, 0, none⟩)) "Pop").run Try.prog w = .ok (64, .pointer (some ⟨b, 0, none⟩)) w := by kernel_rfl
set_option maxRecDepth 100000 in
theorem qlen_any (A : Option Addr) (n c : Nat) (w : World) : Calls Try.prog 26 #[.slice A n c] w fun e w' => e = .returned (.int .i64 n) ∧ w = w' := by
  go_enter Try.func26, Try.ntmps26
  go_wp2
  go_ret
  exact ⟨rfl, rfl⟩

end Go.Proofs.Ytjifekdjkjnefaa
