/- The law GraphOrders returns true, and turns nothing that was there. -/
import Derived.Test.YtnjabanjgckeoaaG19
namespace Go.Proofs.Ytnjabanjgckeoaa
open Go.RowKit
open Go.ChangeMaps (setBlock)
set_option linter.unusedVariables false
set_option linter.unusedSimpArgs false
set_option maxRecDepth 100000

theorem Own.cellMem {W0 : Base} {w : World} {L : List Rw} {e size g n cap : Nat} {xs : List Value} (h : Own W0 w L) (hm : (⟨e, size, .slice (some ⟨g, 0, none⟩) n cap, n, xs⟩ : Rw) ∈ L) (j : Nat) (hj : j < n * size) : w.cell? ⟨g, j, none⟩ = xs[j]? := by
  obtain ⟨A, B, e⟩ := List.append_of_mem hm
  rw [e] at h
  exact (h.perm List.perm_middle).cell j hj
theorem sts_src {w : World} {v : Value} {ls : List Nm} (h : Sts w v ls) (hz : v = .slice none 0 0 ∨ ∃ a n c, v = .slice (some a) n c) : Src w v ls.length (strs ls) := by
  rcases hz with rfl | ⟨a, n, c, rfl⟩
  · obtain ⟨a', c', e, _⟩ := h
    injection e with _ e2 _
    have e3 : ls = [] := List.length_eq_zero_iff.1 e2.symm
    subst e3
    exact .inl ⟨rfl, rfl, rfl⟩
  · obtain ⟨_, ad, e, hs⟩ := h.src (by simp)
    injection e with e
    subst e
    exact hs
end Go.Proofs.Ytnjabanjgckeoaa
