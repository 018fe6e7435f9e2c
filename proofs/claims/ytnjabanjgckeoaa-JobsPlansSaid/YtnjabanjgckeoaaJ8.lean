/- The law JobsNone, walked. -/
import Derived.Test.YtnjabanjgckeoaaJ7
namespace Go.Proofs.Ytnjabanjgckeoaa
open Go.RowKit
open Go.ChangeMaps (setBlock)
set_option linter.unusedVariables false
set_option linter.unusedSimpArgs false
set_option maxRecDepth 100000

theorem restart_sl {w : World} {g g2 : Nat} {us us2 : List GU} {ord ord2 run hit : List Nm} {v vh : Value} (h : GAt w g us ord) (h2 : GAt w g2 us2 ord2) (hv : Sts w v run) (hh : Sts w vh hit) :
    Calls Try.prog 7 #[.pointer (some ⟨g, 0, none⟩), .pointer (some ⟨g2, 0, none⟩), v, vh] w fun e w' => ∃ l v1 v2, Plan2 us ord ord2 run hit w w' e l v1 v2 := restart_any h h2 hv hh
theorem plan_none {us : List GU} {ord2 run : List Nm} {w : World} (hE : errU us = 0) (e : Ending) (w' : World) (hp : ∃ l v1 v2, Plan2 us (ordU us) ord2 run [] w w' e l v1 v2) :
    ∃ a1 c1 a2 c2, e = .returned (.agg #[.slice a1 0 c1, .slice a2 0 c2]) ∧ Own w w' [rowSs (.slice a1 0 c1) [], rowSs (.slice a2 0 c2) []] := by
  obtain ⟨l, v1, v2, hp⟩ := hp
  obtain rfl := lean_nil hp.just
  have hO := hp.own
  rw [pick_none] at hO
  have hO' : Own w w' [rowSs v1 [], rowSs v2 []] := by
    have e1 : pick ord2 (List.filter (fun n => decide (n ∈ run)) []) = [] := pick_none _
    rw [e1] at hO
    exact hO
  obtain ⟨a1, c1, hv1, _, _⟩ := Own.sized (h := hO')
  obtain ⟨a2, c2, hv2, _, _⟩ := Own.sized (h := hO'.tail)
  have hv1' : v1 = .slice a1 0 c1 := hv1
  have hv2' : v2 = .slice a2 0 c2 := hv2
  subst hv1' hv2'
  exact ⟨a1, c1, a2, c2, hp.ret, hO'⟩
theorem plan_all {us : List GU} {ord2 run : List Nm} {w W : World} {vn : Value} (hE : errU us = 0) (hW : Own w W [rowSs vn (sortN (namesU us))]) (e : Ending) (w' : World) (hp : ∃ l v1 v2, Plan2 us (ordU us) ord2 run (sortN (namesU us)) W w' e l v1 v2) :
    ∃ a1 n1 c1 a2 n2 c2, e = .returned (.agg #[.slice a1 n1 c1, .slice a2 n2 c2]) ∧ n1 = (runsN run (ordU us)).reverse.length ∧ n2 = (pick ord2 (runsN run (ordU us))).length ∧ Own w w' [rowSs (.slice a1 n1 c1) (runsN run (ordU us)).reverse, rowSs (.slice a2 n2 c2) (pick ord2 (runsN run (ordU us)))] := by
  obtain ⟨l, v1, v2, hp⟩ := hp
  obtain rfl := lean_allN (errU_ok hE).2.1 hp.just
  have hO := keep2 (hW.join hp.own)
  rw [pick_all hE] at hO
  obtain ⟨a1, c1, hv1, _, _⟩ := Own.sized (h := hO)
  obtain ⟨a2, c2, hv2, _, _⟩ := Own.sized (h := hO.tail)
  have hv1' : v1 = .slice a1 (runsN run (ordU us)).reverse.length c1 := hv1
  have hv2' : v2 = .slice a2 (pick ord2 (runsN run (ordU us))).length c2 := hv2
  subst hv1' hv2'
  exact ⟨a1, _, c1, a2, _, c2, hp.ret, rfl, rfl, hO⟩
theorem sts_cell {w : World} {a : Option Addr} {n c : Nat} {ls : List Nm} (h : Sts w (.slice a n c) ls) (hn : n = ls.length) {k : Nat} (hk : k < ls.length) : ∃ b o, a = some ⟨b, o, none⟩ ∧ w.cell? ⟨b, o + k, none⟩ = some (.string (toB ls[k])) := by
  obtain ⟨a', c', e, _, _, h4⟩ := h
  obtain ⟨b, o, e2, _, hc⟩ := h4 (by omega)
  have e1 : a = a' := (Value.slice.inj e).1
  exact ⟨b, o, e1.trans e2, hc k hk⟩
end Go.Proofs.Ytnjabanjgckeoaa
