/- Texts one behind the other, each in a section of its own: what calls make of memory, step by step. -/
import Derived.Test.YtfffkgbnjakhnaaGreatDoorPackNeedNone16
import Derived.Deep.RegionWith
import Derived.Deep.DeepCutAuto

/- Stale, Get, Of: whether a unit runs with a file that is superseded. -/
section
namespace Go.Proofs.YtfffkgbnjakhnaaGreatDoor
open Go.RowKit
open Go.ChangeMaps (setBlock)
set_option linter.unusedVariables false
set_option linter.unusedSimpArgs false
set_option maxRecDepth 100000

def staleE (E : Et) (p : Nm) (i : Int) : Bool := !(findX E p).isSome || ((findX E p).getD 0 != i)
def mapsV (V : MV) (pid : Int) : List Int := ((look V.runs pid).map (·.2.1)).getD []
/-- Does a unit run with a file that is superseded? -/
def ofN (V : MV) (n : Nm) : Bool := ((mapsV V (ofV V n).pid).zip (ofV V n).files).any fun q => staleE V.E q.2 q.1
section
variable {w0 w w1 w' : World} {K : Blocks} {L0 : List Rw} {v mb tb gb N : Nat} {us : List GU} {ord : OrdX} {V : MV} {X : VX} {Y : Tab}
set_option maxHeartbeats 1000000 in
theorem stale_at (h : MgAt w0 v mb tb gb us ord N V w) (hm : Mx w0) (p : Nm) (hp : p.length ≤ 1000000) (i : Int) :
    Calls Tryz.prog 72 #[.pointer (some ⟨v, 0, none⟩), .string (toB p), .int .i64 i] w fun e w' => e = .returned (.bool (staleE V.E p i)) ∧ Below w.heap.size w w' := by
  obtain ⟨K, L0, X, Y, M, h, rfl, rfl, rfl, rfl, hg, hG⟩ := h
  obtain ⟨o, h1, _⟩ := h.x
  obtain ⟨S, R, L, T, hI, _⟩ := h1.vt
  have c0 := hI.atV.1.1
  have hf := hI.find hm (toB p) (by rw [toB_size]; unfold maxLen; omega)
  have HD := Lib.hid (show staleE (vw X Y M).E p i = (!(findX X.E p).isSome || ((findX X.E p).getD 0 != i)) from rfl)
  obtain ⟨r, hr⟩ : ∃ r, staleE (vw X Y M).E p i = r := ⟨_, rfl⟩
  rw [hr] at HD ⊢
  have e : (toB p).data.toList = p := by simp
  rw [e] at hf
  clear h h1 hI hg hG hr e
  generalize (findX X.E p).getD 0 = j at *
  generalize (findX X.E p).isSome = ok at *
  generalize toB p = pb at *
  cases ok with
  | false =>
    obtain rfl : r = true := HD.out
    go_enter Tryz.func72, Tryz.ntmps72
    go_wp2_with fail
    refine hf.mono ?_
    rintro e w2 ⟨rfl, hb⟩
    clear hf
    go_wp2_with fail
    go_ret
    exact ⟨rfl, hb⟩
  | true =>
    have HD2 := Lib.hid (show r = (j != i) from HD.out)
    go_enter Tryz.func72, Tryz.ntmps72
    go_wp2_with fail
    refine hf.mono ?_
    rintro e w2 ⟨rfl, hb⟩
    clear hf
    go_wp2_with fail
    go_ret
    exact ⟨by rw [HD2.out]; rfl, hb⟩
theorem get_noB (h : VT w0 K L0 v X Y w) (i : Int) (hp : look Y.runs i = none) : Calls Tryz.prog 61 #[.pointer (some ⟨Y.tb, 0, none⟩), .int .i64 i] w fun e w' => e = .returned (.tuple #[.agg zQ.toArray, .bool false]) ∧ Below w.heap.size w w' := by
  obtain ⟨t0, t1, t2⟩ := h.tab
  have hO := (Own.start w).boxQ zQ rfl w.heap.size rfl
  have h2 := h.later hO.below
  obtain ⟨_, _, d2⟩ := h2.tab
  have hl := h2.foundNo hp
  have cr := Lib.hid (hO.rangeQ rfl)
  have H := Lib.hid hO.below
  unfold zQ at *
  clear h hp h2 hO
  go_enter Tryz.func61, Tryz.ntmps61
  go_wp2_with fail
  refine bodyPost_ret (v := .tuple #[.agg zQ.toArray, .bool false]) (ret_cell_tmpT Tryz.results61 rfl rfl cr.out Tryz.underlying122 rfl info_proc) rfl ?_
  exact ⟨rfl, H.out⟩
theorem mget_at (h : MgAt w0 v mb tb gb us ord N V w) (pid : Int) : Calls Tryz.prog 61 #[.pointer (some ⟨tb, 0, none⟩), .int .i64 pid] w fun e w' => ∃ (q : Int) (u : ByteArray) (am : Option Addr) (cm : Nat) (en ok : Bool), e = .returned (.tuple #[.agg #[.int .i64 q, .string u, .slice am (mapsV V pid).length cm, .bool en], .bool ok]) ∧ Own w w' [rowI (.slice am (mapsV V pid).length cm) (mapsV V pid)] := by
  obtain ⟨K, L0, X, Y, M, h, rfl, rfl, rfl, rfl, hg, hG⟩ := h
  obtain ⟨o, h1, _⟩ := h.x
  have hV := h1.vt
  have hm : mapsV (vw X Y M) pid = ((look Y.runs pid).map (·.maps)).getD [] := by
    unfold mapsV
    rw [runs_vw]
    cases look Y.runs pid <;> rfl
  cases hl : look Y.runs pid with
  | none =>
    rw [hm, hl]
    refine (get_noB hV pid hl).mono fun e w' hd => ?_
    obtain ⟨e1, hb⟩ := hd
    exact ⟨0, ⟨#[]⟩, none, 0, false, false, e1, (Own.of_below hb).nil _ _⟩
  | some p =>
    rw [hm, hl]
    have hml : p.maps.length ≤ 8 := (hG.each (pid, vwP p) (List.mem_map.2 ⟨_, look_mem hl, rfl⟩)).2
    refine (get_yes hV pid hl (by omega)).mono fun e w' hd => ?_
    obtain ⟨mv, e1, _, hO⟩ := hd
    obtain ⟨a, c, ev, _, _⟩ := Own.sized (h := (show Own w w' (⟨3, 1, mv, p.maps.length, ints p.maps⟩ :: []) from hO))
    subst ev
    exact ⟨pid, p.u, a, c, p.ends, true, e1, hO⟩
theorem zip_any_succ (f : Int × Nm → Bool) (l : List (Int × Nm)) (k : Nat) (h : k < l.length) : (l.take (k + 1)).any f = ((l.take k).any f || f l[k]) := by
  rw [List.take_succ_eq_append_getElem h, List.any_append, List.any_cons, List.any_nil, Bool.or_false]
set_option maxHeartbeats 8000000 in
theorem of_at (h : MgAt w0 v mb tb gb us ord N V w) (hm : Mx w0) (n : Nm) (hlen : (mapsV V (ofV V n).pid).length = (ofV V n).files.length) (hsm : (ofV V n).files.length ≤ 1000) (hf : ∀ p ∈ (ofV V n).files, p.length ≤ 1000000) :
    Calls Tryz.prog 33 #[.pointer (some ⟨v, 0, none⟩), .pointer (some ⟨mb, 0, none⟩), .string (toB n)] w fun e w' => e = .returned (.bool (ofN V n)) ∧ Below w.heap.size w w' := by
  have H := Lib.hid h
  have c0 := mgcells h
  have hpid := pid_at h n
  have hpidd := pid_at h.drew n
  have HA := Lib.hid ((Own.start w).drew.boxQ zQ rfl w.heap.size rfl)
  have hbA := HA.out.below
  have hpida := pid_at (h.later hbA) n
  have c0a := mgcells (h.later hbA)
  have c0d := mgcells h.drew
  have HA2 := Lib.hid ((Own.start w).boxQ zQ rfl w.heap.size rfl).drew
  have hbA2 := HA2.out.below
  have hpidb := pid_at (h.later hbA2) n
  have hpidc := pid_at (h.later ((Own.start w).boxQ zQ rfl w.heap.size rfl).below) n
  have c0b := mgcells (h.later hbA2)
  have c0c := mgcells (h.later ((Own.start w).boxQ zQ rfl w.heap.size rfl).below)
  unfold zQ at HA hbA hpida c0a HA2 hbA2 hpidb hpidc c0b c0c
  have HG := Lib.hid (fun w9 (hb : Below w.heap.size w w9) => mget_at (h.later hb) (ofV V n).pid)
  have HH := Lib.hid (fun w9 (hb : Below w.heap.size w w9) => has_at (h.later hb) n (by omega))
  have HS := Lib.hid (fun w9 (hb : Below w.heap.size w w9) (p : Nm) (hp : p ∈ (ofV V n).files) (i : Int) => stale_at (h.later hb) hm p (hf p hp) i)
  have HC := Lib.hid (fun w9 (hb : Below w.heap.size w w9) => mgcells (h.later hb))
  have HQ := Lib.hid (show ofN V n = ((mapsV V (ofV V n).pid).zip (ofV V n).files).any fun q => staleE V.E q.2 q.1 from rfl)
  obtain ⟨Q, hQ⟩ : ∃ Q, ofN V n = Q := ⟨_, rfl⟩
  rw [hQ] at HQ ⊢
  clear h hQ hm hf
  generalize mapsV V (ofV V n).pid = ms at *
  generalize (ofV V n).files = fs at *
  generalize (ofV V n).pid = pid at *
  generalize toB n = nb at *
  generalize V.E = E at *
  have Hlen := Lib.hid hlen
  obtain ⟨m, hmq⟩ : ∃ m, fs.length = m := ⟨_, rfl⟩
  rw [hlen, hmq] at HG
  rw [hmq] at hlen hsm
  have Hms := Lib.hid hlen
  have Hfs := Lib.hid hmq
  have hsm2 : (m : Int) ≤ 1000 := by omega
  clear hlen hmq
  go_enter Tryz.func33, Tryz.ntmps33
  go_upto_region 1 with fail
  go_cut [7] (fun s wc => ∃ (Hb : Nat) (q : Int) (u : ByteArray) (am : Option Addr) (cm : Nat) (en : Bool), s = .pointer (some ⟨Hb, 0, none⟩) ∧ Own w wc [rQ Hb [.int .i64 q, .string u, .slice am m cm, .bool en]] ∧ StI wc (.slice am ms.length cm) ms)
  case first =>
    go_region_with (first
      | (go_at_call 25; (first | refine hpid.mono ?_ | refine hpidd.mono ?_ | refine hpida.mono ?_ | refine hpidb.mono ?_ | refine hpidc.mono ?_); rintro e w4 ⟨rfl, rfl⟩)
      | (go_at_call 61; first
        | (refine (HG.out _ (by first | exact Below.refl _ _ | exact (Below.refl _ _).drew)).mono ?_; rintro e w5 ⟨q, u, am, cm, en, ok, rfl, hO5⟩; have hb5 : Below w.heap.size w w5 := (by first | exact hO5.below | exact ((Below.refl w.heap.size w).drew).trans hO5.below); have c5 := HC.out w5 hb5; have HB5 := Lib.hid hb5; have HO5 := Lib.hid hO5.stI; clear hO5 hb5)
        | (refine (HG.out _ hbA).mono ?_; rintro e w5 ⟨q, u, am, cm, en, ok, rfl, hO5⟩; have HJ5 := Lib.hid (HA.out.join hO5); have hb5 : Below w.heap.size w w5 := (HA.out.join hO5).below; have c5 := HC.out w5 hb5; obtain ⟨⟨z0, z1, z2, z3⟩, f0, f1, f2, f3⟩ := Own.cellsQ (h := (HA.out.join hO5).swap); have HO5 := Lib.hid hO5.stI; clear hO5 hb5)
        | (refine (HG.out _ hbA2).mono ?_; rintro e w5 ⟨q, u, am, cm, en, ok, rfl, hO5⟩; have HJ5 := Lib.hid (HA2.out.join hO5); have hb5 : Below w.heap.size w w5 := (HA2.out.join hO5).below; have c5 := HC.out w5 hb5; obtain ⟨⟨z0, z1, z2, z3⟩, f0, f1, f2, f3⟩ := Own.cellsQ (h := (HA2.out.join hO5).swap); have HO5 := Lib.hid hO5.stI; clear hO5 hb5)))
    all_goals
      go_wp2_with fail
      go_meet
      first
      | (have HX := (Own.of_below HB5.out).boxQ [.int .i64 q, .string u, .slice am m cm, .bool en] rfl w5.heap.size rfl
         exact ⟨_, q, u, am, cm, en, rfl, HX, (by rw [Hms.out]; exact HO5.out.later ((Below.refl _ w5).alloc (Nat.le_refl _) _))⟩)
      | (have h9 := Own.setCells (h := (show Own w w5 (⟨122, 4, .slice (some ⟨w.heap.size, 0, none⟩) 1 1, 1, zQ⟩ :: [rowI (.slice am m cm) ms]) from HJ5.out.swap)) [.int .i64 q, .string u, .slice am m cm, .bool en] 0
         have e9 : splice zQ 0 [Value.int .i64 q, .string u, .slice am m cm, .bool en] = [Value.int .i64 q, .string u, .slice am m cm, .bool en] := splice_all' _ _ rfl
         rw [e9] at h9
         exact ⟨w.heap.size, q, u, am, cm, en, rfl, h9.only (List.mem_cons_self ..), (by rw [Hms.out]; exact h9.tail.stI)⟩)
  case rest =>
    obtain ⟨Hb, q, u, am, cm, en, rfl, hO, hSt⟩ := hcut
    have HB := Lib.hid hO.below
    have HO := Lib.hid hO
    have HSt := Lib.hid hSt
    have hha := HH.out wc hO.below
    clear hO hSt hpid hpidd hpida hpidb hpidc c0 c0a c0b c0c c0d HA HA2 hbA hbA2 HG HH
    go_wp2_with fail
    refine hha.mono ?_
    rintro e w7 ⟨v7, rfl, hO7⟩
    have hb7 := hO7.below
    have HB7 := Lib.hid (HB.out.trans (hb7.mono HB.out.size))
    have hst7 := hO7.sts
    obtain ⟨af, cf, hv7, hcf, hcm, _⟩ := id hst7
    rw [Hfs.out] at hv7 hcf
    subst hv7
    have hcf2 : (m : Int) ≤ (cf : Int) := by omega
    have HF7 := Lib.hid hst7
    have HS7 := Lib.hid (HSt.out.later hb7)
    have HQ7 := Lib.hid (HO.out.later hb7)
    obtain ⟨⟨z0, z1, z2, z3⟩, _⟩ := Own.cellsQ (h := HQ7.out)
    obtain ⟨am', cm', em, hcm1, hcm2, _⟩ := id HS7.out
    rw [Hms.out] at em hcm1
    injection em with em1 _ em3
    subst em1 em3
    have hcm3 : (m : Int) ≤ (cm : Int) := by omega
    have hcm4 : (cm : Int) ≤ 9223372036854775807 := by unfold maxLen at hcm2; omega
    have hm0 : (0 : Int) ≤ (m : Int) := by omega
    clear hha hO7 hst7 hb7 hcm1 hcm2 hcf hcm
    have HFa := Lib.hid (fun (wr : World) (hb : Below w7.heap.size w7 wr) (k : Nat) (hk : k < fs.length) => (show ∃ b o, af = some ⟨b, o, none⟩ ∧ wr.cell? ⟨b, o + k, none⟩ = some (.string (toB fs[k])) from by
      obtain ⟨a', c', e, _, _, g⟩ := HF7.out.later hb
      injection e with e1 e2 e3
      obtain ⟨b, o, g1, _, g3⟩ := g (by omega)
      exact ⟨b, o, by rw [e1, g1], g3 k hk⟩))
    have HSa := Lib.hid (fun (wr : World) (hb : Below w7.heap.size w7 wr) (k : Nat) (hk : k < ms.length) => (show ∃ b o, am = some ⟨b, o, none⟩ ∧ wr.cell? ⟨b, o + k, none⟩ = some (.int .i64 ms[k]) from by
      obtain ⟨a', c', e, _, _, g⟩ := HS7.out.later hb
      injection e with e1 e2 e3
      obtain ⟨b, o, g1, _, g3⟩ := g (by omega)
      exact ⟨b, o, by rw [e1, g1], g3 k hk⟩))
    clear HF7 HS7
    go_wp2_with fail
    have hzl : (ms.zip fs).length = m := by rw [List.length_zip, Hms.out, Hfs.out, Nat.min_self]
    have Hzl := Lib.hid hzl
    have HZ := Lib.hid (fun (k : Nat) (h1 : k < ms.length) (h2 : k < fs.length) (h3 : k < (ms.zip fs).length) => (show (ms.zip fs)[k] = (ms[k], fs[k]) from List.getElem_zip))
    have Hst := Lib.hid (show ∃ k : Nat, (Value.int .i64 0) = .int .i64 k ∧ k ≤ m ∧ Hid (Below w7.heap.size w7 w7) ∧ Hid (((ms.zip fs).take k).any (fun q => staleE E q.2 q.1) = false) from ⟨0, rfl, Nat.zero_le _, Below.refl _ _, rfl⟩)
    clear hzl z0 z1 z2 z3
    go_loopw [6, 36] (fun s i wr => s = .bool false ∧ ∃ k : Nat, i = .int .i64 k ∧ k ≤ m ∧ Hid (Below w7.heap.size w7 wr) ∧ Hid (((ms.zip fs).take k).any (fun q => staleE E q.2 q.1) = false)) (fun _ i _ => m - (intOf i).toNat)
    case atStart => exact ⟨rfl, Hst.out⟩
    case round =>
      obtain ⟨rfl, k, rfl, hk, HBr, HAny⟩ := hrel
      clear Hst
      by_cases hlt : k < m
      · have hk1 : k < ms.length := by rw [Hms.out]; exact hlt
        have hk2 : k < fs.length := by rw [Hfs.out]; exact hlt
        have hk3 : k < (ms.zip fs).length := by rw [Hzl.out]; exact hlt
        obtain ⟨b1, o1, rfl, q1⟩ := HSa.out wr HBr.out k hk1
        obtain ⟨b2, o2, rfl, q2⟩ := HFa.out wr HBr.out k hk2
        have hbw := HB7.out.trans (HBr.out.mono HB7.out.size)
        have hcall := HS.out wr hbw fs[k] (List.getElem_mem hk2) ms[k]
        have HN := Lib.hid (fun b (hb : staleE E fs[k] ms[k] = b) => (show ((ms.zip fs).take (k + 1)).any (fun q => staleE E q.2 q.1) = b from by rw [zip_any_succ _ _ k hk3, HAny.out, HZ.out k hk1 hk2 hk3, hb]; rfl))
        have HT := Lib.hid (fun (hb : staleE E fs[k] ms[k] = true) => (show Q = true from by
          rw [HQ.out]
          refine List.any_eq_true.2 ⟨(ms.zip fs)[k], List.getElem_mem _, ?_⟩
          rw [HZ.out k hk1 hk2 hk3]
          exact hb))
        clear hbw
        generalize fs[k] = p at *
        generalize ms[k] = x at *
        generalize toB p = pb at *
        have hkz : (k : Int) < (m : Int) := by omega
        cases hs : staleE E p x with
        | true =>
          rw [hs] at hcall
          have HT2 := Lib.hid (HT.out hs)
          clear hs
          go_wp2_with fail
          refine hcall.mono ?_
          rintro e w9 ⟨rfl, hb9⟩
          clear hcall
          go_wp2_with fail
          go_ret
          exact ⟨by rw [HT2.out]; rfl, HB7.out.trans ((HBr.out.trans (hb9.mono HBr.out.size)).mono HB7.out.size)⟩
        | false =>
          rw [hs] at hcall
          have HN2 := Lib.hid (HN.out false hs)
          clear hs
          go_wp2_with fail
          refine hcall.mono ?_
          rintro e w9 ⟨rfl, hb9⟩
          have HB9 := Lib.hid (HBr.out.trans (hb9.mono HBr.out.size))
          clear hcall
          go_wp2_with fail
          go_roundw
          case rel => exact ⟨rfl, k + 1, by go_num, hlt, HB9, HN2⟩
          case measure => simp [intOf]; omega
      · obtain rfl : k = m := by omega
        have hq : Q = false := by
          rw [HQ.out, ← HAny.out, ← Hzl.out, List.take_length]
        have Hq := Lib.hid hq
        have hkz : ¬ (k : Int) < (k : Int) := Int.lt_irrefl _
        clear hq
        go_wp2_with fail
        go_ret
        exact ⟨by rw [Hq.out]; rfl, HB7.out.trans (HBr.out.mono HB7.out.size)⟩
end
end Go.Proofs.YtfffkgbnjakhnaaGreatDoor
end

/- In: the units in some states, in order. -/
section
namespace Go.Proofs.YtfffkgbnjakhnaaGreatDoor
open Go.RowKit
open Go.ChangeMaps (setBlock)
set_option linter.unusedVariables false
set_option linter.unusedSimpArgs false
set_option maxRecDepth 100000

/-- Going through units' states by the iterator at r, where what lay in w's blocks is as it was. -/
def RW (w : World) (r rb : Nat) (m : List (Nm × RunD)) (oi o : Obj) (done left : List (Nm × RunD)) (wr : World) : Prop :=
  wr.heap[r]? = some oi ∧ w.heap[rb]? = some o ∧ IterO keyN oi rb o (runsR m) (runsR left) ∧ (done ++ left).Perm m ∧ Below w.heap.size w wr ∧ w.heap.size ≤ r
theorem RW.start {w w1 : World} {rb : Nat} {m : List (Nm × RunD)} {o : Obj} (h1 : w.heap[rb]? = some o) (h2 : MapO keyN o (runsR m)) (hb : Below w.heap.size w w1) : ∃ oi, (Instr.range 105 (.map (some rb))).run Tryz.prog w1 = .ok (.pointer (some ⟨w1.heap.size, 0, none⟩)) (w1.alloc oi) ∧ RW w w1.heap.size rb m oi o [] m (w1.alloc oi) := by
  obtain ⟨oi, h3, h4⟩ := h2.range und_runs ((hb.block _ (lt_of_heap h1)).trans h1)
  exact ⟨oi, h3, (MapKept.heap_alloc w1 _).1, h1, h4, List.Perm.refl _, hb.alloc hb.size _, hb.size⟩
theorem RW.next {w wr : World} {r rb : Nat} {m : List (Nm × RunD)} {oi o : Obj} {done left : List (Nm × RunD)} (h : RW w r rb m oi o done left wr) :
    (left = [] ∧ ∀ ty, (Instr.next (.pointer (some ⟨r, 0, none⟩)) false ty).run Tryz.prog wr = .ok (.tuple #[.bool false]) wr) ∨
    ∃ (l1 l2 : List (Nm × RunD)) (p : Nm × RunD) (oi' : Obj) (w1 : World), left = l1 ++ p :: l2 ∧ (w1 = wr ∨ w1 = wr.drew) ∧ (∀ ty, (Instr.next (.pointer (some ⟨r, 0, none⟩)) false ty).run Tryz.prog wr = .ok (.tuple #[.bool true, .string (toB p.1), p.2.val]) (setBlock w1 r oi')) ∧
      RW w r rb m oi' o (done ++ [p]) (l1 ++ l2) (setBlock w1 r oi') ∧ p ∈ m ∧
      (∀ u : World, u.heap[r]? = some oi' → u.heap[rb]? = some o → (Instr.entry (.pointer (some ⟨r, 0, none⟩))).run Tryz.prog u = .ok (.tuple #[.string (toB p.1), p.2.val]) u) := by
  obtain ⟨h1, h2, h3, h4, h5, h6⟩ := h
  have hlt := lt_of_heap h2
  have h2' : wr.heap[rb]? = some o := (h5.block _ hlt).trans h2
  rcases h3.next (P := Tryz.prog) 0 h1 h2' with ⟨g1, g2⟩ | ⟨x, y, z, w1, oi', g1, g2, g3, g4, g5⟩
  · left
    have : left = [] := List.map_eq_nil_iff.1 g1
    exact ⟨this, fun ty => g2⟩
  · right
    obtain ⟨l1, p, l2, e1, e2, e3, e4⟩ := map_split _ left x y z g1
    have hb1 : Below w.heap.size w w1 := by rcases g2 with rfl | rfl; exact h5; exact h5.drew
    have hlt1 : r < w1.heap.size := by rcases g2 with rfl | rfl <;> exact lt_of_heap h1
    obtain ⟨s1, s2, s3⟩ := setBlock_heap w1 r oi' hlt1
    refine ⟨l1, l2, p, oi', w1, e1, g2, fun ty => by rw [show (Instr.next (.pointer (some ⟨r, 0, none⟩)) false ty) = (Instr.next (.pointer (some ⟨r, 0, none⟩)) false 0) from rfl, g3, ← e3], ⟨s1, h2, by rw [show runsR (l1 ++ l2) = x ++ z by rw [← e2, ← e4]; simp [runsR]]; exact g4, ?_, below_setG hb1 h6 _, h6⟩, ?_, fun u hu hu2 => by rw [g5 u hu hu2, ← e3]⟩
    · refine List.Perm.trans ?_ h4
      rw [e1]
      simp only [List.append_assoc, List.singleton_append]
      exact (List.perm_middle.symm).append_left done
    · exact h4.subset (by rw [e1]; simp)
theorem RW.entry {w wr : World} {r rb : Nat} {m : List (Nm × RunD)} {oi o : Obj} {done left : List (Nm × RunD)} (h : RW w r rb m oi o done left wr) : wr.heap[r]? = some oi ∧ wr.heap[rb]? = some o := ⟨h.1, (h.2.2.2.2.1.block _ (lt_of_heap h.2.1)).trans h.2.1⟩
theorem RW.left_eq {w wr : World} {r rb : Nat} {m : List (Nm × RunD)} {oi o : Obj} {done left : List (Nm × RunD)} (h : RW w r rb m oi o done left wr) : leftG wr rb r = left.length := by
  obtain ⟨e1, e2⟩ := h.entry
  obtain ⟨es, clock, since, seen, c0, rfl, rfl, _, _, _, _, _, _, h7⟩ := h.2.2.1
  have := congrArg List.length h7
  simp only [leftG, e1, e2]
  simpa [runsR] using this
/-- Numbers in memory. -/
def IntsAt (w : World) (v : Value) (zs : List Int) : Prop := ∃ b o c, v = .slice (some ⟨b, o, none⟩) zs.length c ∧ zs.length ≤ 1000000 ∧ ∀ j, j < zs.length → w.cell? ⟨b, o + j, none⟩ = some (.int .i64 (zs.getD j 0))
theorem IntsAt.later {w w' : World} {v : Value} {zs : List Int} (h : IntsAt w v zs) (hb : Below w.heap.size w w') : IntsAt w' v zs := by
  obtain ⟨b, o, c, e, hl, hc⟩ := h
  exact ⟨b, o, c, e, hl, fun j hj => (hb.cell (p := ⟨b, o + j, none⟩) (World.block_lt_of_cell? w _ (hc j hj))).trans (hc j hj)⟩
theorem IntsAt.contains {w : World} {v : Value} {zs : List Int} (h : IntsAt w v zs) (x : Int) : Calls Tryz.prog 76 #[v, .int .i64 x] w fun e w' => e = .returned (.bool (zs.contains x)) ∧ w' = w := by
  obtain ⟨b, o, c, rfl, hl, hc⟩ := h
  have := Tryz.slices_Contains_int b o zs.length c zs x w (Nat.le_refl _) (by omega) hc
  rw [List.take_length] at this
  exact this
/-- The names of those in some states. -/
def selI (zs : List Int) (l : List (Nm × RunD)) : List Nm := (l.filter fun p => zs.contains p.2.state).map (·.1)
theorem selI_snoc (zs : List Int) (l : List (Nm × RunD)) (p : Nm × RunD) : selI zs (l ++ [p]) = selI zs l ++ if zs.contains p.2.state then [p.1] else [] := by
  unfold selI
  rw [List.filter_append, List.map_append]
  congr 1
  cases h : zs.contains p.2.state with
  | true => rw [List.filter_cons, h]; rfl
  | false => rw [List.filter_cons, h]; rfl
def inV (V : MV) (zs : List Int) : List Nm := (V.mr.filter fun p => zs.contains p.2.state).map (·.1)
theorem selI_in (X : VX) (Y : Tab) (M : MS) (zs : List Int) : selI zs M.runs = inV (vw X Y M) zs := by
  unfold selI inV
  show _ = ((M.runs.map fun p => (p.1, p.2.view)).filter _).map (·.1)
  rw [List.filter_map, List.map_map]
  rfl
def InRel (w : World) (rb : Nat) (m : List (Nm × RunD)) (zs : List Int) (r : Nat) (s : Value) (wr : World) : Prop :=
  ∃ oi o done left, RW w r rb m oi o done left wr ∧ Own ⟨w, [(r, oi)]⟩ wr [rowSs s (selI zs done)]
set_option maxHeartbeats 8000000 in
theorem in_in {w0 w : World} {K : Blocks} {L0 : List Rw} {v : Nat} {X : VX} {Y : Tab} {M : MS} (h : MgIn w0 K L0 v X Y M w) (hlen : M.runs.length ≤ 10000) {sv : Value} {zs : List Int} (hz : IntsAt w sv zs) :
    Calls Tryz.prog 37 #[.pointer (some ⟨M.m, 0, none⟩), sv] w fun e w' => ∃ v', e = .returned v' ∧ Own w w' [rowSs v' (sortN (selI zs M.runs))] := by
  obtain ⟨i0, hi, hz0, hz1, hz2⟩ := infoS_ex
  obtain ⟨⟨c0, c1, c2, c3⟩, _⟩ := h.cells
  obtain ⟨o, h1, h2⟩ := h.x
  have hrb := h1.cellK (List.mem_cons_of_mem _ (List.mem_cons_self ..))
  obtain ⟨oi, hrun, hW⟩ := RW.start hrb h2 (Below.refl _ w)
  have HSH := Lib.hid (fun (p : Nm × RunD) (hp : p ∈ M.runs) => (show ∃ a c, p.2.hv = .slice a p.2.files.length c from (h.has p hp).shape h))
  have HW := Lib.hid (show InRel w M.rb M.runs zs w.heap.size (.slice none 0 0) (w.alloc oi) from ⟨oi, o, [], M.runs, hW, ((Own.start w).newB oi).nil 9 1⟩)
  have HZ := Lib.hid hz
  have HN := Lib.hid hlen
  obtain ⟨sb, so, sc, hsv, _, _⟩ := hz
  subst hsv
  generalize hzn : zs.length = zn at *
  clear h h1 h2 hW hlen c0 c1 c3
  have HRB := Lib.hid hrb
  clear hrb
  generalize M.runs = m at *
  generalize M.rb = rb at *
  go_enter Tryz.func37, Tryz.ntmps37
  go_wp2_with fail
  generalize hrr : w.heap.size = r at *
  have HRR := Lib.hid hrr
  clear hrr hrun
  go_loopw [5] (fun s wr => InRel w rb m zs r s wr) (fun _ wr => leftG wr rb r)
  case atStart => exact HW.out
  case round =>
    obtain ⟨oi2, o2, done, left, hW, hO⟩ := hrel
    have hle := hW.left_eq
    have hperm := hW.2.2.2.1
    have hdone : (selI zs done).length ≤ 10000 := by
      have h1 := hperm.length_eq
      have h3 := HN.out
      rw [List.length_append] at h1
      have h4 := List.length_filter_le (fun p : Nm × RunD => zs.contains p.2.state) done
      unfold selI
      rw [List.length_map]
      omega
    rcases hW.next with ⟨rfl, hnx⟩ | ⟨l1, l2, p, oi', w2', rfl, hw1, hnx, hW', hp, hen⟩
    · have hO2 : Own ⟨w, []⟩ wr [rowSs u5 (selI zs done)] := hO.forget (S' := []) (fun m hm => by cases hm)
      have hs := sortS_row hO2 (by omega)
      have hper : sortN (selI zs done) = sortN (selI zs m) := by
        rw [List.append_nil] at hperm
        exact sortN_eq ((hperm.filter _).map _)
      rw [hper] at hs
      obtain ⟨fa, fc, hf, _, _⟩ := Own.sized (h := (show Own ⟨w, []⟩ wr (⟨9, 1, u5, (selI zs done).length, strs (selI zs done)⟩ :: []) from hO2))
      clear hW hle hperm hO hO2 hdone hper
      subst hf
      go_wp2_with (go_at_call 77; refine hs.mono ?_; rintro e w3 ⟨rfl, hO3⟩; have HO3 := Lib.hid hO3; clear hO3)
      go_ret
      exact ⟨_, rfl, HO3.out⟩
    · have hO1 : Own ⟨w, [(r, oi2)]⟩ w2' [rowSs u5 (selI zs done)] := by rcases hw1 with rfl | rfl; exact hO; exact hO.drew
      have hO2 : Own ⟨w, [(r, oi')]⟩ (setBlock w2' r oi') [rowSs u5 (selI zs done)] := by
        have := hO1.setB (List.mem_cons_self ..) oi'
        simpa [upd] using this
      obtain ⟨e1, e2⟩ := hW'.entry
      have hent := hen _ e1 e2
      have hmeas : (l1 ++ l2).length < leftG wr rb r := by rw [hle]; simp
      have hsn := selI_snoc zs done p
      obtain ⟨pa, pc, hps⟩ := HSH.out p hp
      obtain ⟨pn, pst, ppid, phv, ptr, pfs⟩ := p
      dsimp only at hps hsn hnx hent
      subst hps
      generalize hw2 : setBlock w2' r oi' = w2 at *
      obtain ⟨fa, fc, hf, _, _⟩ := Own.sized (h := (show Own ⟨w, [(r, oi')]⟩ w2 (⟨9, 1, u5, (selI zs done).length, strs (selI zs done)⟩ :: []) from hO2))
      have hf' : u5 = .slice fa (selI zs done).length fc := hf
      clear hf
      subst hf'
      have HWn := Lib.hid hW'
      have HO2 := Lib.hid hO2
      have HM := Lib.hid hmeas
      have Hsn := Lib.hid hsn
      unfold RunD.val at hent hnx
      dsimp only at hent hnx
      generalize hpf : pfs.length = pl at *
      have hO3 := HO2.out.alloc (.cells #[.int .i64 pst, .int .i64 ppid, .slice pa pl pc, .int .i64 ptr] 119)
      have hB3 : Below w.heap.size w (w2.alloc (.cells #[.int .i64 pst, .int .i64 ppid, .slice pa pl pc, .int .i64 ptr] 119)) := hO3.below
      have k1 := (HZ.out.later hB3).contains pst
      have hb0 := cell_at (MapKept.heap_alloc w2 (.cells #[.int .i64 pst, .int .i64 ppid, .slice pa pl pc, .int .i64 ptr] 119)).1 0
      have HRW := Lib.hid (fun (W : World) (v4 : Value) (ns : List Nm) (hO4 : Own ⟨w, [(r, oi')]⟩ W [rowSs v4 ns]) (hns : ns = selI zs (done ++ [(pn, ⟨pst, ppid, .slice pa pl pc, ptr, pfs⟩)])) => (show InRel w rb m zs r v4 W ∧ leftG W rb r < leftG wr rb r from by
        have hW4 : RW w r rb m oi' o2 (done ++ [(pn, ⟨pst, ppid, .slice pa pl pc, ptr, pfs⟩)]) (l1 ++ l2) W := ⟨hO4.at (List.mem_cons_self ..), HWn.out.2.1, HWn.out.2.2.1, HWn.out.2.2.2.1, hO4.below, HWn.out.2.2.2.2.2⟩
        exact ⟨⟨oi', o2, _, _, hW4, by rw [← hns]; exact hO4⟩, by rw [hW4.left_eq]; exact HM.out⟩))
      have HO3 := Lib.hid hO3
      have Hll := Lib.hid hdone
      clear hW hle hperm hO hO1 hO2 hW' e1 e2 hmeas hsn hdone hO3 hB3 hw1 hw2 hpf
      generalize hls : selI zs done = ls at *
      have Hls := Lib.hid hls
      clear hls
      generalize hpb : toB pn = pb at *
      have Hpb := Lib.hid hpb
      clear hpb
      cases hct : zs.contains pst with
      | true =>
        rw [hct] at k1
        have HYES := Lib.hid (fun (v4 : Value) (W : World) (hO4 : Own ⟨w, [(r, oi')]⟩ W (⟨9, 1, v4, ls.length + 1, strs ls ++ [.string pb]⟩ :: [])) => HRW.out W v4 (ls ++ [pn]) (by
          show Own _ W (⟨9, 1, v4, (ls ++ [pn]).length, strs (ls ++ [pn])⟩ :: [])
          rw [List.length_append, show strs (ls ++ [pn]) = strs ls ++ [.string pb] from by rw [← Hpb.out]; simp [strs]]
          exact hO4) (by rw [Hsn.out, hct]; rfl))
        have HO4 := Lib.hid (show Own ⟨w, [(r, oi')]⟩ ((w2.alloc (.cells #[.int .i64 pst, .int .i64 ppid, .slice pa pl pc, .int .i64 ptr] 119)).alloc (.cells #[.string pb] 9)) (⟨9, 1, .slice fa ls.length fc, ls.length, strs ls⟩ :: []) from HO3.out.alloc _)
        have Hsrc := Lib.hid (show Src ((w2.alloc (.cells #[.int .i64 pst, .int .i64 ppid, .slice pa pl pc, .int .i64 ptr] 119)).alloc (.cells #[.string pb] 9)) (.slice (some ⟨w2.heap.size + 1, 0, none⟩) 1 1) 1 [.string pb] from by
          have h9 := src_one (w2.alloc (.cells #[.int .i64 pst, .int .i64 ppid, .slice pa pl pc, .int .i64 ptr] 119)) (.string pb) 9 rfl
          rwa [show (w2.alloc (.cells #[.int .i64 pst, .int .i64 ppid, .slice pa pl pc, .int .i64 ptr] 119)).heap.size = w2.heap.size + 1 from by simp] at h9)
        have Hb1 := Lib.hid (show ls.length + 1 ≤ maxLen from by have := Hll.out; unfold maxLen; omega)
        have Hb2 := Lib.hid (show (ls.length + 1) * 16 ≤ 140737488355328 from by have := Hll.out; omega)
        clear hct
        go_wp2_with (first
          | (at_builtin; refine wpList_append_src rfl (.tmp 22) (.tmp 24) 40 rfl (.slice fa ls.length fc) ls.length (strs ls) (.slice (some ⟨w2.heap.size + 1, 0, none⟩) 1 1) 1 [.string pb] rfl rfl HO4.out i0 (.string ⟨#[]⟩) 16 Tryz.underlying40 hi hz0 hz1 hz2 rfl (by decide) Hsrc.out (by simp) Hb1.out Hb2.out ?_)
          | (go_at_call 76; refine k1.mono ?_; rintro e w9 ⟨rfl, rfl⟩))
        intro v4 w4 hO4
        have HR := Lib.hid (HYES.out v4 w4 hO4)
        obtain ⟨a4, c4, hv4, _, _⟩ := Own.sized (h := hO4)
        subst hv4
        clear hO4
        go_wp2_with fail
        go_roundw
        case rel => exact HR.out.1
        case measure => exact HR.out.2
      | false =>
        rw [hct] at k1
        have HR := Lib.hid (HRW.out _ _ ls HO3.out (by rw [Hsn.out, hct]; simp))
        clear hct
        go_wp2_with (go_at_call 76; refine k1.mono ?_; rintro e w9 ⟨rfl, rfl⟩)
        go_roundw
        case rel => exact HR.out.1
        case measure => exact HR.out.2
end Go.Proofs.YtfffkgbnjakhnaaGreatDoor
end

/- Units in some states, beside a manager; numbers that are handed in. -/
section
namespace Go.Proofs.YtfffkgbnjakhnaaGreatDoor
open Go.RowKit
open Go.ChangeMaps (setBlock)
set_option linter.unusedVariables false
set_option linter.unusedSimpArgs false
set_option maxRecDepth 100000

theorem shortF_of {us : List GU} (hd : (namesU us).Nodup) (hb : ∀ u ∈ us, ∀ f ∈ u.fi, f.length ≤ 1000000) : ShortF us := fun n f hf => by
  by_cases hn : n ∈ namesU us
  · exact hb _ (findU_of hd hn).1 f hf
  · rw [findU_none hn] at hf; cases hf
theorem in_at {w0 w : World} {v mb tb gb N : Nat} {us : List GU} {ord : OrdX} {V : MV} (h : MgAt w0 v mb tb gb us ord N V w) (hN : N ≤ 10000) {sv : Value} {zs : List Int} (hz : IntsAt w sv zs) :
    Calls Tryz.prog 37 #[.pointer (some ⟨mb, 0, none⟩), sv] w fun e w' => ∃ v', e = .returned v' ∧ Own w w' [rowSs v' (sortN (inV V zs))] := by
  obtain ⟨K, L0, X, Y, M, h, rfl, rfl, rfl, rfl, hg, hG⟩ := h
  have hf := hG.few
  have hl : (vw X Y M).mr.length = M.runs.length := by show (M.runs.map _).length = _; rw [List.length_map]
  have := in_in h (by omega) hz
  rw [selI_in X Y M] at this
  exact this
end Go.Proofs.YtfffkgbnjakhnaaGreatDoor
end

/- slices.DeleteFunc over a row of texts of the call's own. -/
section
namespace Go.Proofs.YtfffkgbnjakhnaaGreatDoor
open Go.RowKit
open Go.ChangeMaps (setBlock)
set_option linter.unusedVariables false
set_option linter.unusedSimpArgs false
set_option maxRecDepth 100000

/-- Fewer of a row, of whatever cells. -/
theorem row_takeV {W0 : Base} {w : World} {L : List Rw} {e g n cap : Nat} {xs : List Value} (h : Own W0 w (⟨e, 1, .slice (some ⟨g, 0, none⟩) n cap, n, xs⟩ :: L)) (k : Nat) (hk : k ≤ n) : Own W0 w (⟨e, 1, .slice (some ⟨g, 0, none⟩) k cap, k, xs.take k⟩ :: L) := by
  have hown : w.ownsRow W0.world.heap.size e 1 (.slice (some ⟨g, 0, none⟩) n cap) n xs := h.head
  have hlen := h.len
  have hap := List.pairwise_cons.1 h.apart
  refine ⟨h.below, fun p hp => ?_, List.pairwise_cons.2 ⟨fun q hq => hap.1 q hq, hap.2⟩, h.maps, fun m hm p hp => ?_⟩
  · rcases List.mem_cons.1 hp with rfl | hp
    · refine ⟨by simp at hlen ⊢; omega, ?_⟩
      rcases hown.2 with ⟨hv, hn⟩ | ⟨g', cap', cur, hv, hg, hb, hn, hcap, hsz, htk⟩
      · cases hv
      · refine .inr ⟨g', cap', cur, ?_, hg, hb, by show k ≤ _; omega, hcap, hsz, ?_⟩
        · injection hv with e1 e2 e3
          show Value.slice _ _ _ = Value.slice _ _ _
          rw [e1, e3]
        · show List.take (k * 1) cur.toList = xs.take k
          rw [Nat.mul_one]
          rw [Nat.mul_one] at htk
          have e9 : cur.toList.take k = (cur.toList.take n).take k := by rw [List.take_take]; congr 1; omega
          rw [e9, htk]
    · exact h.rows p (List.mem_cons_of_mem _ hp)
  · rcases List.mem_cons.1 hp with rfl | hp
    · exact h.offmaps m hm (⟨e, 1, .slice (some ⟨g, 0, none⟩) n cap, n, xs⟩ : Rw) (List.mem_cons_self ..)
    · exact h.offmaps m hm p (List.mem_cons_of_mem _ hp)
theorem filter_take_succ (q : Nm → Bool) (ls : List Nm) (j : Nat) (hj : j < ls.length) : (ls.take (j + 1)).filter q = (ls.take j).filter q ++ if q ls[j] then [ls[j]] else [] := by
  rw [List.take_succ_eq_append_getElem hj, List.filter_append]
  cases h : q ls[j] <;> simp [h]
theorem set_split (l : List Nm) (i : Nat) (x : Nm) (hi : i < l.length) : (l.set i x).take (i + 1) = l.take i ++ [x] ∧ ∀ j, i < j → (l.set i x).drop j = l.drop j := by
  constructor
  · rw [List.take_succ_eq_append_getElem (by simpa using hi), List.take_set_of_le (Nat.le_refl i)]
    simp
  · intro j hj
    rw [List.drop_set_of_lt hj]
theorem strs_set (l : List Nm) (i : Nat) (x : Nm) : (strs l).set i (.string (toB x)) = strs (l.set i x) := by
  simp [strs]
set_option maxHeartbeats 8000000 in
theorem delF_row {W0 : Base} {w : World} {L : List Rw} {v : Value} {ls : List Nm} (h : Own W0 w (rowSs v ls :: L)) (hl : ls.length ≤ 1000000) (g : Nat) (lb : Array Value) (p : Nm → Bool) (eg : ∀ args w, (callFunc g args).run Tryz.prog w = .ok (.enter g args) w)
    (hp : ∀ W v' l', Own W0 W (rowSs v' l' :: L) → ∀ x, Calls Tryz.prog g (#[.string (toB x)] ++ lb) W fun e w' => e = .returned (.bool (p x)) ∧ Below W.heap.size W w') :
    Calls Tryz.prog 74 #[v, .func (.func g) #[] lb] w fun e w' => ∃ v', e = .returned v' ∧ Own W0 w' (rowSs v' (ls.filter fun x => !p x) :: L) := by
  have ki := index_lb g lb p eg v ls w h.sts (fun W x _ hb => hp W v ls (h.later hb) x)
  obtain ⟨a, n0, c, hv⟩ := h.sts.shape
  subst hv
  have H := Lib.hid h
  have HP := Lib.hid hp
  have hn0 : n0 = ls.length := by
    obtain ⟨a', c', e', _⟩ := h.sts
    injection e'
  subst hn0
  have hlz : (ls.length : Int) ≤ 1000000 := by omega
  clear h hp
  rcases idxF_cases p ls with ⟨_, e2, e3⟩ | ⟨k, hk, _, e2, e3, e4⟩
  · rw [e2] at ki
    have HE := Lib.hid (show (ls.filter fun x => !p x) = ls from List.filter_eq_self.2 fun x hx => by rw [e3 x hx]; rfl)
    clear e2 e3
    go_enter Tryz.func74, Tryz.ntmps74
    go_wp2_with (go_at_call 42; refine ki.mono ?_; rintro e w1 ⟨rfl, hb1⟩; have HB := Lib.hid hb1; clear hb1)
    go_ret
    exact ⟨_, rfl, by rw [HE.out]; exact H.out.later HB.out⟩
  · rw [e2] at ki
    obtain ⟨b, cap, hf, hf1, hf2, hf3, hf4⟩ := H.out.form (by omega)
    injection hf with hf _ hfc
    subst hf hfc
    have HE := Lib.hid (show (ls.take (k + 1)).filter (fun x => !p x) = ls.take k from by
      rw [filter_take_succ _ _ _ hk, e3]
      rw [List.filter_eq_self.2 fun x hx => by
        obtain ⟨j, hj, rfl⟩ := List.getElem_of_mem hx
        rw [List.length_take] at hj
        rw [List.getElem_take, e4 j (by omega) (by omega)]; rfl]
      simp)
    have hkz : (k : Int) < (ls.length : Int) := by omega
    have hkn : ((k : Int) == -1) = false := beq_eq_false_iff_ne.2 (by omega)
    have Hk := Lib.hid hk
    have HF := Lib.hid (show ls.length ≤ c ∧ c ≤ maxLen from ⟨hf3, hf4⟩)
    have hcz : (ls.length : Int) ≤ (c : Int) ∧ (c : Int) ≤ 9223372036854775807 := by unfold maxLen at hf4; omega
    clear e2 e3 e4 hk hf1 hf2 hf3 hf4
    go_enter Tryz.func74, Tryz.ntmps74
    go_upto_region 4 with (go_at_call 42; refine ki.mono ?_; rintro e w1 ⟨rfl, hb1⟩; have H1 := Lib.hid (H.out.later hb1); clear hb1)
    go_wp2_with fail
    go_loopw [5, 6] (fun s5 s6 wr => ∃ (i j : Nat) (l' : List Nm), i < j ∧ j ≤ ls.length ∧ s5 = .int .i64 i ∧ s6 = .int .i64 j ∧ Hid (Own W0 wr (rowSs (.slice (some ⟨b, 0, none⟩) l'.length c) l' :: L)) ∧ Hid (l'.length = ls.length ∧ l'.take i = (ls.take j).filter (fun x => !p x) ∧ l'.drop j = ls.drop j)) (fun _ s6 _ => ls.length - (intOf s6).toNat)
    case atStart => exact ⟨k, k + 1, ls, by omega, by have := Hk.out; omega, rfl, by go_num, H1.out, rfl, by rw [HE.out], rfl⟩
    case round =>
      obtain ⟨i, j, l', hij, hj, rfl, rfl, HO, HL⟩ := hrel
      obtain ⟨hl1, hl2, hl3⟩ := HL.out
      have hO : Own W0 wr (⟨9, 1, .slice (some ⟨b, 0, none⟩) ls.length c, ls.length, strs l'⟩ :: L) := by
        have := HO.out
        rw [← hl1]
        exact this
      by_cases hlt : j < ls.length
      · have hjl : j < l'.length := by omega
        have hx : l'[j] = ls[j] := by
          have e1 := List.drop_eq_getElem_cons hjl
          have e2 := List.drop_eq_getElem_cons hlt
          rw [hl3, e2] at e1
          injection e1 with e1 _
          exact e1.symm
        have cj : wr.cell? ⟨b, j, none⟩ = some (.string (toB ls[j])) := by
          rw [hO.cell j (by omega), strs_at l' j hjl, hx]
        have kc := HP.out wr (.slice (some ⟨b, 0, none⟩) l'.length c) l' HO.out ls[j]
        have HOr := Lib.hid hO
        have hjz : (j : Int) < (ls.length : Int) := by omega
        have hiz : (i : Int) < (ls.length : Int) := by omega
        have HFs := Lib.hid (filter_take_succ (fun x => !p x) ls j hlt)
        have hdr : l'.drop (j + 1) = ls.drop (j + 1) := by
          have e1 := List.drop_eq_getElem_cons hjl
          have e2 := List.drop_eq_getElem_cons hlt
          rw [hl3, e2] at e1
          injection e1 with _ e1
          exact e1.symm
        have HDr := Lib.hid hdr
        have HL1 := Lib.hid hl1
        have HL2 := Lib.hid hl2
        have Hij := Lib.hid hij
        have HSet := Lib.hid (set_split l' i ls[j] (by omega))
        clear hO hl1 hl2 hl3 hx hdr
        generalize hxx : ls[j] = x at *
        clear hxx
        have Hxs := Lib.hid (strs_set l' i x)
        cases hpx : p x with
        | true =>
          rw [hpx] at kc HFs
          have HR := Lib.hid (fun w2 (hb : Below wr.heap.size wr w2) => HO.out.later hb)
          have HN := Lib.hid (show l'.length = ls.length ∧ l'.take i = (ls.take (j + 1)).filter (fun x => !p x) ∧ l'.drop (j + 1) = ls.drop (j + 1) from ⟨HL1.out, by rw [HFs.out, HL2.out]; simp, HDr.out⟩)
          clear hpx
          generalize toB x = xb at *
          go_wp2_with (go_at_fn g; refine kc.mono ?_; rintro e w2 ⟨rfl, hb2⟩; have HR2 := Lib.hid (HR.out w2 hb2); clear hb2)
          go_roundw
          case rel => exact ⟨i, j + 1, l', by omega, by omega, rfl, by go_num, HR2.out, HN.out⟩
          case measure => simp [intOf]; omega
        | false =>
          rw [hpx] at kc HFs
          have HN := Lib.hid (show (l'.set i x).length = ls.length ∧ (l'.set i x).take (i + 1) = (ls.take (j + 1)).filter (fun x => !p x) ∧ (l'.set i x).drop (j + 1) = ls.drop (j + 1) from ⟨by rw [List.length_set]; exact HL1.out, by rw [HSet.out.1, HFs.out, HL2.out]; simp, by rw [HSet.out.2 _ (by have := Hij.out; omega)]; exact HDr.out⟩)
          clear hpx
          generalize hxb : toB x = xb at *
          have HXB := Lib.hid hxb
          clear hxb
          have HR := Lib.hid (fun w2 (hb : Below wr.heap.size wr w2) => HOr.out.later hb)
          go_wp2_with (go_at_fn g; refine kc.mono ?_; rintro e w2 ⟨rfl, hb2⟩; have HR2 := Lib.hid (HR.out w2 hb2); have ci2 := (HR.out w2 hb2).there 0 ls.length (by omega) i (by omega); rw [Nat.zero_add] at ci2; obtain ⟨ci3, fi3⟩ := ci2; obtain ⟨vi, ci4⟩ := Option.isSome_iff_exists.1 ci3; clear hb2 ci3)
          have HR3 : Hid (Own W0 (w2.setCell ⟨b, i, none⟩ (.string xb)) (rowSs (.slice (some ⟨b, 0, none⟩) (l'.set i x).length c) (l'.set i x) :: L)) := by
            have h1 := HR2.out.set i (.string xb)
            rw [Hxs.out] at h1
            show Own W0 _ (⟨9, 1, .slice (some ⟨b, 0, none⟩) (l'.set i x).length c, (l'.set i x).length, strs (l'.set i x)⟩ :: L)
            rw [HN.out.1]
            exact h1
          clear ci4 fi3
          go_roundw
          case rel => exact ⟨i + 1, j + 1, l'.set i x, by omega, by omega, by go_num, by go_num, HR3.out, HN.out⟩
          case measure => simp [intOf]; omega
      · obtain rfl : j = ls.length := by omega
        have hfl : (ls.filter fun x => !p x).length = i := by
          rw [List.take_length] at hl2
          rw [← hl2, List.length_take]; omega
        have hft : (strs l').take i = strs (ls.filter fun x => !p x) := by
          rw [List.take_length] at hl2
          rw [← hl2]; simp [strs]
        have hcl : ∀ ty, (Builtin.clear_ #[40] ty #[.slice (some ⟨b, i, none⟩) (ls.length - i) (c - i)]).run Tryz.prog wr = .ok (.tuple #[]) (wr.setCells b i (List.replicate (ls.length - i) (.string ⟨#[]⟩))) := fun ty =>
          Lib.run_clear_slice wr 40 9 ty (.string ⟨#[]⟩) Tryz.underlying40 (fun w => by rw [Tryz.zeroValue9]) rfl rfl b i (ls.length - i) (c - i) (by omega) (fun q hq => by
            rw [hO.cell (i + q) (by omega), List.getElem?_eq_getElem (by rw [strs_length]; omega)]; rfl) (fun q hq => hO.free _)
        have h9 : Own W0 (wr.setCells b i (List.replicate (ls.length - i) (.string ⟨#[]⟩))) (rowSs (.slice (some ⟨b, 0, none⟩) i c) (ls.filter fun x => !p x) :: L) := by
          have h1 := row_takeV (hO.setCells (List.replicate (ls.length - i) (.string ⟨#[]⟩)) i) i (by omega)
          have e1 : (splice (strs l') i (List.replicate (ls.length - i) (.string ⟨#[]⟩))).take i = strs (ls.filter fun x => !p x) := by
            rw [← hft]
            apply List.ext_getElem?
            intro q
            by_cases hq : q < i
            · rw [List.getElem?_take_of_lt hq, List.getElem?_take_of_lt hq, splice_get _ _ _ _ (by simp [strs]; omega), if_neg (by omega)]
            · rw [List.getElem?_take_eq_none (by omega), List.getElem?_take_eq_none (by omega)]
          rw [e1] at h1
          show Own W0 _ (⟨9, 1, _, (ls.filter fun x => !p x).length, _⟩ :: L)
          rw [hfl]
          exact h1
        have H9 := Lib.hid h9
        have hiz : (i : Int) < (ls.length : Int) := by omega
        have hiN : i < ls.length := hij
        clear hO hl1 hl2 hl3 hfl hft h9 hlt hj
        go_wp2_with fail
        go_ret
        exact ⟨_, rfl, H9.out⟩
end Go.Proofs.YtfffkgbnjakhnaaGreatDoor
end

/- Hit: the units that run with a file that is superseded. -/
section
namespace Go.Proofs.YtfffkgbnjakhnaaGreatDoor
open Go.RowKit
open Go.ChangeMaps (setBlock)
set_option linter.unusedVariables false
set_option linter.unusedSimpArgs false
set_option maxRecDepth 100000

/-- What is asked of the states that Hit is asked for. -/
structure NdOk (V : MV) : Prop where
  same : ∀ n, (mapsV V (ofV V n).pid).length = (ofV V n).files.length
  few : ∀ n, (ofV V n).files.length ≤ 1000
  short : ∀ n, ∀ p ∈ (ofV V n).files, p.length ≤ 1000000
def hitV (V : MV) : List Nm := (sortN (inV V [1, 2, 3])).filter (ofN V)
section
variable {w0 w w1 w' : World} {K : Blocks} {L0 : List Rw} {v mb tb gb N : Nat} {us : List GU} {ord : OrdX} {V : MV} {X : VX} {Y : Tab}
theorem fresh_at (h : MgAt w0 v mb tb gb us ord N V w) (hm : Mx w0) (hV : NdOk V) (n : Nm) (b1 b2 : Nat) (h1 : w.cell? ⟨b1, 0, none⟩ = some (.pointer (some ⟨v, 0, none⟩))) (h2 : w.cell? ⟨b2, 0, none⟩ = some (.pointer (some ⟨mb, 0, none⟩))) :
    Calls Tryz.prog 73 #[.string (toB n), .pointer (some ⟨b1, 0, none⟩), .pointer (some ⟨b2, 0, none⟩)] w fun e w' => e = .returned (.bool (!ofN V n)) ∧ Below w.heap.size w w' := by
  have hof := of_at h hm n (hV.same n) (hV.few n) (hV.short n)
  clear h
  generalize ofN V n = q at *
  go_enter Tryz.func73, Tryz.ntmps73
  go_wp2_with fail
  refine hof.mono ?_
  rintro e w2 ⟨rfl, hb⟩
  clear hof
  go_wp2_with fail
  go_ret
  exact ⟨rfl, hb⟩
theorem ints3 (w : World) (x y z : Int) : IntsAt (w.alloc (.cells #[.int .i64 x, .int .i64 y, .int .i64 z] 3)) (.slice (some ⟨w.heap.size, 0, none⟩) 3 3) [x, y, z] :=
  ⟨w.heap.size, 0, 3, rfl, by show 3 ≤ 1000000; decide, fun j hj => by
    have hat := (MapKept.heap_alloc w (.cells #[.int .i64 x, .int .i64 y, .int .i64 z] 3)).1
    match j, hj with
    | 0, _ => exact cell_at hat 0
    | 1, _ => exact cell_at hat 1
    | 2, _ => exact cell_at hat 2
    | n + 3, h => exact absurd h (by simp)⟩
set_option maxHeartbeats 4000000 in
theorem hit_at (h : MgAt w0 v mb tb gb us ord N V w) (hm : Mx w0) (hN : N ≤ 9000) (hV : NdOk V) :
    Calls Tryz.prog 32 #[.pointer (some ⟨v, 0, none⟩), .pointer (some ⟨mb, 0, none⟩)] w fun e w' => ∃ v', e = .returned v' ∧ Own w w' [rowSs v' (hitV V)] := by
  have hO1 := (Own.start w).made 30 1 #[.pointer (some ⟨v, 0, none⟩)] 1 rfl (by unfold maxLen; decide)
  have s1 : w.heap.size + 1 = (w.alloc (.cells #[.pointer (some ⟨v, 0, none⟩)] 30)).heap.size := by simp
  have HO := Lib.hid (hO1.made_at 31 1 #[.pointer (some ⟨mb, 0, none⟩)] 1 (w.heap.size + 1) s1 rfl (by unfold maxLen; decide))
  have HM := Lib.hid (h.later HO.out.below)
  have c1 : ((w.alloc (.cells #[.pointer (some ⟨v, 0, none⟩)] 30)).alloc (.cells #[.pointer (some ⟨mb, 0, none⟩)] 31)).cell? ⟨w.heap.size, 0, none⟩ = some (.pointer (some ⟨v, 0, none⟩)) := Own.cell (h := HO.out.swap) 0 (by decide)
  have c2 : ((w.alloc (.cells #[.pointer (some ⟨v, 0, none⟩)] 30)).alloc (.cells #[.pointer (some ⟨mb, 0, none⟩)] 31)).cell? ⟨w.heap.size + 1, 0, none⟩ = some (.pointer (some ⟨mb, 0, none⟩)) := Own.cell (h := HO.out) 0 (by decide)
  clear h hO1 s1
  go_enter Tryz.func32, Tryz.ntmps32
  go_upto_region 2 with fail
  generalize w.heap.size + 1 = b2 at *
  obtain ⟨b1, hb1⟩ : ∃ b1, w.heap.size = b1 := ⟨_, rfl⟩
  rw [hb1] at HO c1 ⊢
  generalize (w.alloc (.cells #[.pointer (some ⟨v, 0, none⟩)] 30)).alloc (.cells #[.pointer (some ⟨mb, 0, none⟩)] 31) = W at *
  have hbW : Below W.heap.size W (W.alloc (.cells #[.int .i64 1, .int .i64 2, .int .i64 3] 3)) := (Below.refl _ W).alloc (Nat.le_refl _) _
  have hin := in_at (HM.out.later hbW) (by omega) (ints3 W 1 2 3)
  have HB := Lib.hid (HO.out.below)
  have HbW := Lib.hid hbW
  have HC := Lib.hid (And.intro c1 c2)
  clear hbW hb1 c1
  go_wp2_with fail
  refine hin.mono ?_
  rintro e w3 ⟨v3, rfl, hO3⟩
  have hb3 := HbW.out.trans (hO3.below.mono HbW.out.size)
  have hlen : (sortN (inV V [1, 2, 3])).length ≤ 1000000 := by
    have h1 := HM.out.good.few
    unfold inV
    rw [sortN_length, List.length_map]
    have := List.length_filter_le (fun p : Nm × RV => [1, 2, 3].contains p.2.state) V.mr
    omega
  have hdel := delF_row hO3 hlen 73 #[.pointer (some ⟨b1, 0, none⟩), .pointer (some ⟨b2, 0, none⟩)] (fun n => !ofN V n) (fun args w => by rfl) (fun W9 v' l' hO' x => by
    have hb9 : Below W.heap.size W W9 := HbW.out.trans (hO'.below.mono HbW.out.size)
    exact fresh_at (HM.out.later hb9) hm hV x b1 b2 ((hb9.cell (p := ⟨b1, 0, none⟩) (World.block_lt_of_cell? _ _ HC.out.1)).trans HC.out.1) ((hb9.cell (p := ⟨b2, 0, none⟩) (World.block_lt_of_cell? _ _ HC.out.2)).trans HC.out.2))
  have HB3 := Lib.hid (HB.out.trans (HbW.out.mono HB.out.size))
  have he : ((sortN (inV V [1, 2, 3])).filter fun x => !(!ofN V x)) = hitV V := by unfold hitV; simp
  simp only [he] at hdel
  clear hin hO3 hb3 he
  go_wp2_with fail
  refine hdel.mono ?_
  rintro e w4 ⟨v4, rfl, hO4⟩
  have HF := Lib.hid ((Own.of_below HB3.out).join hO4)
  clear hdel hO4
  go_wp2_with fail
  go_ret
  exact ⟨_, rfl, HF.out.only (by simp)⟩
end
end Go.Proofs.YtfffkgbnjakhnaaGreatDoor
end

/- Units that a law hands in; the document's example, plain. -/
section
namespace Go.Proofs.YtfffkgbnjakhnaaGreatDoor
open Go.RowKit
open Go.ChangeMaps (setBlock)
set_option linter.unusedVariables false
set_option linter.unusedSimpArgs false
set_option maxRecDepth 100000

def flatU (xs : List UV) : List Value := (xs.map UV.cells).flatten
theorem flatU_at : ∀ (xs : List UV) (i : Nat) (h : i < xs.length), ((flatU xs).drop (i * 8)).take 8 = xs[i].cells := by
  intro xs
  induction xs with
  | nil => intro i h; exact absurd h (Nat.not_lt_zero _)
  | cons x r ih =>
    intro i h
    cases i with
    | zero =>
      show ((flatU (x :: r)).drop 0).take 8 = x.cells
      unfold flatU
      rw [List.drop_zero, List.map_cons, List.flatten_cons]
      exact List.take_left' rfl
    | succ i =>
      have := ih i (by simpa using h)
      have hi : i < r.length := by simpa using h
      show ((flatU (x :: r)).drop ((i + 1) * 8)).take 8 = r[i].cells
      rw [← this]
      unfold flatU
      rw [List.map_cons, List.flatten_cons, show (i + 1) * 8 = i * 8 + 8 from by omega, List.drop_append, List.drop_eq_nil_of_le (by show 8 ≤ _; omega), List.nil_append]
      rfl
theorem uarg_of {W0 : Base} {w : World} {L : List Rw} {xs : List UV} {us : List GU} {v : Value} (h : Own W0 w (⟨42, 8, v, us.length, flatU xs⟩ :: L)) (hu : Units w xs us) (hz : ∀ x ∈ xs, x.nilOk) : UArg w v us := by
  obtain ⟨a, c, rfl, _, _⟩ := h.sized
  refine ⟨a, c, xs, rfl, hu, fun i hi => ?_⟩
  have hpos : 0 < us.length := by rw [← hu.len]; omega
  obtain ⟨g, cap, e, _⟩ := h.form hpos
  injection e with e1 _ e3
  subst e1 e3
  refine ⟨⟨g, 0, rfl, ?_⟩, hz _ (List.getElem_mem hi)⟩
  have := h.range (i * 8) 8
  rw [flatU_at xs i hi] at this
  simpa using this
theorem sts_one {W0 : Base} {w : World} {L : List Rw} {g : Nat} {n : Nm} (h : Own W0 w L) (hm : (⟨9, 1, .slice (some ⟨g, 0, none⟩) 1 1, 1, [.string (toB n)]⟩ : Rw) ∈ L) : Sts w (.slice (some ⟨g, 0, none⟩) 1 1) [n] := h.stsMem hm

/-! ### The example -/
def gA : GU := ⟨[97], [], [], [], [[98]], [], [], 0⟩
def gB : GU := ⟨[98], [], [], [], [], [], [], 0⟩
def gC : GU := ⟨[99], [], [], [[98]], [], [], [[97]], 0⟩
def usA : List GU := [gA, gB, gC]
def hA : GU := ⟨[97], [], [[98]], [], [], [], [], 0⟩
def hB : GU := ⟨[98], [], [[97]], [], [], [], [], 0⟩
def usB : List GU := [hA, hB]
theorem errB : errU usB = 19 := by decide
theorem headB : (placeU usB).2.head? = some [97] := by decide
end Go.Proofs.YtfffkgbnjakhnaaGreatDoor
end

/- The document's example of graph comes out true. -/
section
namespace Go.Proofs.YtfffkgbnjakhnaaGreatDoor
open Go.RowKit
open Go.ChangeMaps (setBlock)
set_option linter.unusedVariables false
set_option linter.unusedSimpArgs false
set_option maxRecDepth 100000

theorem new_cycle {w : World} {v : Value} {us : List GU} (h : UArg w v us) (hlen : us.length ≤ 1000000) (hs : ∀ n ∈ namesU us, n.length ≤ 1000000) (hb : ∀ u ∈ us, Bnd u) (hE : errU us = 19) {n : Nm} (hn : (placeU us).2.head? = some n) :
    Calls Tryz.prog 8 #[v] w fun e w' => e = .returned (.tuple #[.pointer none, .int .i64 19, .string (toB n)]) ∧ Below w.heap.size w w' :=
  (new_any h hlen hs hb).mono fun e w' hp => by
    obtain ⟨gv, n', rfl, hbl, hbad, _, h19⟩ := hp
    have h1 := h19 hE
    rw [hn] at h1
    injection h1 with h1
    subst h1
    rw [hbad (by rw [hE]; decide), hE]
    exact ⟨rfl, hbl⟩
theorem bnd_small {u : GU} (h : u.fi.length ≤ 100 ∧ u.af.length ≤ 100 ∧ u.be.length ≤ 100 ∧ u.re.length ≤ 100 ∧ u.wa.length ≤ 100 ∧ u.pa.length ≤ 100) : Bnd u := ⟨by omega, by omega, by omega, by omega, by omega, by omega⟩
theorem argB (w : World) : UArg (((w.alloc (.cells #[.string ⟨#[98]⟩] 9)).alloc (.cells #[.string ⟨#[97]⟩] 9)).alloc (.cells #[.string ⟨#[97]⟩, .slice none 0 0, .slice (some ⟨w.heap.size, 0, none⟩) 1 1, .slice none 0 0, .slice none 0 0, .slice none 0 0, .slice none 0 0, .int .i64 0, .string ⟨#[98]⟩, .slice none 0 0, .slice (some ⟨w.heap.size + 1, 0, none⟩) 1 1, .slice none 0 0, .slice none 0 0, .slice none 0 0, .slice none 0 0, .int .i64 0] 42)) (.slice (some ⟨w.heap.size + 1 + 1, 0, none⟩) 2 2) usB ∧ Below w.heap.size w (((w.alloc (.cells #[.string ⟨#[98]⟩] 9)).alloc (.cells #[.string ⟨#[97]⟩] 9)).alloc (.cells #[.string ⟨#[97]⟩, .slice none 0 0, .slice (some ⟨w.heap.size, 0, none⟩) 1 1, .slice none 0 0, .slice none 0 0, .slice none 0 0, .slice none 0 0, .int .i64 0, .string ⟨#[98]⟩, .slice none 0 0, .slice (some ⟨w.heap.size + 1, 0, none⟩) 1 1, .slice none 0 0, .slice none 0 0, .slice none 0 0, .slice none 0 0, .int .i64 0] 42)) := by
  have O1 := (Own.start w).made_at 9 1 #[.string ⟨#[98]⟩] 1 w.heap.size rfl rfl (by unfold maxLen; decide)
  have O2 := O1.made_at 9 1 #[.string ⟨#[97]⟩] 1 (w.heap.size + 1) (by simp) rfl (by unfold maxLen; decide)
  have O4 := O2.made_at 42 8 #[.string ⟨#[97]⟩, .slice none 0 0, .slice (some ⟨w.heap.size, 0, none⟩) 1 1, .slice none 0 0, .slice none 0 0, .slice none 0 0, .slice none 0 0, .int .i64 0, .string ⟨#[98]⟩, .slice none 0 0, .slice (some ⟨w.heap.size + 1, 0, none⟩) 1 1, .slice none 0 0, .slice none 0 0, .slice none 0 0, .slice none 0 0, .int .i64 0] 2 (w.heap.size + 1 + 1) (by simp) rfl (by unfold maxLen; decide)
  refine ⟨uarg_of (xs := [⟨[97], .slice none 0 0, .slice (some ⟨w.heap.size, 0, none⟩) 1 1, .slice none 0 0, .slice none 0 0, .slice none 0 0, .slice none 0 0, 0⟩, ⟨[98], .slice none 0 0, .slice (some ⟨w.heap.size + 1, 0, none⟩) 1 1, .slice none 0 0, .slice none 0 0, .slice none 0 0, .slice none 0 0, 0⟩]) O4 ?_ (fun x hx => by
    simp only [List.mem_cons, List.not_mem_nil, or_false] at hx
    rcases hx with rfl | rfl <;> (intro v hv; simp only [List.mem_cons, List.not_mem_nil, or_false] at hv; rcases hv with rfl | rfl | rfl | rfl | rfl | rfl <;> first | exact .inl rfl | exact .inr ⟨_, _, _, rfl⟩)), O4.below⟩
  have n0 := sts_nil (((w.alloc (.cells #[.string ⟨#[98]⟩] 9)).alloc (.cells #[.string ⟨#[97]⟩] 9)).alloc (.cells #[.string ⟨#[97]⟩, .slice none 0 0, .slice (some ⟨w.heap.size, 0, none⟩) 1 1, .slice none 0 0, .slice none 0 0, .slice none 0 0, .slice none 0 0, .int .i64 0, .string ⟨#[98]⟩, .slice none 0 0, .slice (some ⟨w.heap.size + 1, 0, none⟩) 1 1, .slice none 0 0, .slice none 0 0, .slice none 0 0, .slice none 0 0, .int .i64 0] 42))
  have s1 : Sts (((w.alloc (.cells #[.string ⟨#[98]⟩] 9)).alloc (.cells #[.string ⟨#[97]⟩] 9)).alloc (.cells #[.string ⟨#[97]⟩, .slice none 0 0, .slice (some ⟨w.heap.size, 0, none⟩) 1 1, .slice none 0 0, .slice none 0 0, .slice none 0 0, .slice none 0 0, .int .i64 0, .string ⟨#[98]⟩, .slice none 0 0, .slice (some ⟨w.heap.size + 1, 0, none⟩) 1 1, .slice none 0 0, .slice none 0 0, .slice none 0 0, .slice none 0 0, .int .i64 0] 42)) (.slice (some ⟨w.heap.size, 0, none⟩) 1 1) [[98]] := sts_one O4 (List.mem_cons_of_mem _ (List.mem_cons_of_mem _ (List.mem_cons_self ..)))
  have s2 : Sts (((w.alloc (.cells #[.string ⟨#[98]⟩] 9)).alloc (.cells #[.string ⟨#[97]⟩] 9)).alloc (.cells #[.string ⟨#[97]⟩, .slice none 0 0, .slice (some ⟨w.heap.size, 0, none⟩) 1 1, .slice none 0 0, .slice none 0 0, .slice none 0 0, .slice none 0 0, .int .i64 0, .string ⟨#[98]⟩, .slice none 0 0, .slice (some ⟨w.heap.size + 1, 0, none⟩) 1 1, .slice none 0 0, .slice none 0 0, .slice none 0 0, .slice none 0 0, .int .i64 0] 42)) (.slice (some ⟨w.heap.size + 1, 0, none⟩) 1 1) [[97]] := sts_one O4 (List.mem_cons_of_mem _ (List.mem_cons_self ..))
  exact .cons ⟨rfl, rfl, n0, s1, n0, n0, n0, n0⟩ (.cons ⟨rfl, rfl, n0, s2, n0, n0, n0, n0⟩ .nil)
theorem newB (w : World) : Calls Tryz.prog 8 #[.slice (some ⟨w.heap.size + 1 + 1, 0, none⟩) 2 2] (((w.alloc (.cells #[.string ⟨#[98]⟩] 9)).alloc (.cells #[.string ⟨#[97]⟩] 9)).alloc (.cells #[.string ⟨#[97]⟩, .slice none 0 0, .slice (some ⟨w.heap.size, 0, none⟩) 1 1, .slice none 0 0, .slice none 0 0, .slice none 0 0, .slice none 0 0, .int .i64 0, .string ⟨#[98]⟩, .slice none 0 0, .slice (some ⟨w.heap.size + 1, 0, none⟩) 1 1, .slice none 0 0, .slice none 0 0, .slice none 0 0, .slice none 0 0, .int .i64 0] 42)) fun e w' => e = .returned (.tuple #[.pointer none, .int .i64 19, .string ⟨#[97]⟩]) ∧ Below w.heap.size w w' := by
  obtain ⟨h1, h2⟩ := argB w
  refine (new_cycle h1 (by decide) (by decide) (fun u hu => bnd_small (by
    simp only [usB, List.mem_cons, List.not_mem_nil, or_false] at hu
    rcases hu with rfl | rfl <;> decide)) errB headB).mono ?_
  rintro e w' ⟨rfl, hb⟩
  exact ⟨rfl, h2.trans (hb.mono h2.size)⟩
end Go.Proofs.YtfffkgbnjakhnaaGreatDoor
end

/- A new manager; law 16's volume and manager. -/
section
namespace Go.Proofs.YtfffkgbnjakhnaaGreatDoor
open Go.RowKit
open Go.ChangeMaps (setBlock)
set_option linter.unusedVariables false
set_option linter.unusedSimpArgs false
set_option maxRecDepth 100000

/-- A manager beside a graph that isn't its own yet. -/
def MgPre (w0 : World) (v mb tb g : Nat) (us : List GU) (ord : OrdX) (N : Nat) (V : MV) (w : World) : Prop :=
  ∃ K L0 X Y M, MgIn w0 K L0 v X Y M w ∧ vw X Y M = V ∧ M.m = mb ∧ Y.tb = tb ∧ GKx w0 K L0 g us ord ∧ Gd N V
section
variable {w0 w w1 w' : World} {K : Blocks} {L0 : List Rw} {v mb tb gb g N : Nat} {us us' : List GU} {ord : OrdX} {ord' : List Nm} {V : MV} {X : VX} {Y : Tab}
theorem set_at16 (h : MgPre w0 v mb tb g us ord N V w) : Calls Tryz.prog 10 #[.pointer (some ⟨mb, 0, none⟩), .pointer (some ⟨g, 0, none⟩)] w fun e w' => e = .returned (.tuple #[]) ∧ MgAt w0 v mb tb g us ord N V w' := by
  obtain ⟨K, L0, X, Y, M, h1, rfl, rfl, rfl, h6, h7⟩ := h
  obtain ⟨⟨c0, c1, c2, c3⟩, hf⟩ := h1.cells
  have f1 := hf 1
  have HP := Lib.hid (show MgAt w0 v M.m Y.tb g us ord N (vw X Y M) (w.setCell ⟨M.m, 1, none⟩ (.pointer (some ⟨g, 0, none⟩))) from ⟨K, L0, X, Y, _, h1.setG g, rfl, rfl, rfl, rfl, h6, h7⟩)
  clear h1 h6 h7 c0 c2 c3 hf
  go_enter Tryz.func10, Tryz.ntmps10
  go_wp2_with fail
  go_end0
  exact ⟨rfl, HP.out⟩
theorem arg_none (w : World) : UArg w (.slice none 0 0) [] := ⟨none, 0, [], rfl, .nil, fun i hi => absurd hi (Nat.not_lt_zero _)⟩
def V0 (X : VX) (Y : Tab) : MV := ⟨X.E, X.held, Y.last, Y.runs.map fun p => (p.1, vwP p.2), [], [], budX X⟩
end
end Go.Proofs.YtfffkgbnjakhnaaGreatDoor
end

/- Law 17's volume and units, plain; a manager beside a row of operations. -/
section
namespace Go.Proofs.YtfffkgbnjakhnaaGreatDoor
open Go.RowKit
open Go.ChangeMaps (setBlock)
set_option linter.unusedVariables false
set_option linter.unusedSimpArgs false
set_option maxRecDepth 100000

def ts5 : List (Int × Nm × Nm) := [(2, [47, 97], []), (2, [47, 98], []), (2, [47, 99], []), (2, [47, 100], []), (2, [47, 101], [])]
theorem ts5_ok : TsOk ts5 := ⟨by decide, by decide, by decide, by decide⟩
def VN0 : MV := ⟨E0 3000, [], 0, [], [], [], (0, 0, 399, 3)⟩
def EN : Et := ⟨3000, 7, [(1, ⟨true, [(toB [97], 2), (toB [98], 3), (toB [99], 4), (toB [100], 5), (toB [101], 6)], [], 0⟩), (2, ⟨false, [], [], 1⟩), (3, ⟨false, [], [], 1⟩), (4, ⟨false, [], [], 1⟩), (5, ⟨false, [], [], 1⟩), (6, ⟨false, [], [], 1⟩)]⟩
theorem do_N : DoE (E0 3000) (xsT ts5) = (0, EN) := by rfl
def VN : MV := doV VN0 ts5
def gdV (V : MV) : Prop := V.held = [] ∧ V.runs = [] ∧ V.mr = [] ∧ V.evs = [] ∧ V.last = 0
theorem gd_new {V : MV} (h : gdV V) : Gd 0 V := by
  obtain ⟨h1, h2, h3, h4, h5⟩ := h
  refine ⟨⟨by show (V.held.map _).Nodup; rw [h1]; exact List.nodup_nil, fun i => by show 0 ≤ heldN V.held i ∧ heldN V.held i ≤ _; rw [h1]; exact ⟨Int.le_refl 0, Int.le_refl 0⟩⟩, by rw [h2]; exact List.nodup_nil, by rw [h5]; exact ⟨Int.le_refl 0, Int.le_refl 0⟩, (fun p hp => by rw [h2] at hp; cases hp), by rw [h4]; exact Nat.le_refl 0, by rw [h3]; exact Nat.le_refl 0, (fun p hp => by rw [h3] at hp; cases hp), by rw [h3]; exact List.nodup_nil, by rw [h2]; exact Nat.le_refl 0, (fun p hp => by rw [h3] at hp; cases hp)⟩
def uN (n : Nm) (fs : List Nm) : GU := ⟨n, fs, [], [], [], [], [], 0⟩
def usN : List GU := [uN [117] [[47, 97]], uN [118] [[47, 98], [47, 99]], uN [119] [[47, 97], [47, 99], [47, 100]], uN [120] [[47, 100]]]
theorem errN : errU usN = 0 := by decide
theorem shortN : ShortF usN := shortF_of (by decide) (by decide)
/-- A manager beside a graph that may not be its own yet, and beside a row. -/
def MgR (w0 : World) (v mb tb g : Nat) (us : List GU) (ord : OrdX) (N : Nat) (V : MV) (r : Rw) (w : World) : Prop :=
  ∃ K L0 X Y M, MgIn w0 K L0 v X Y M w ∧ vw X Y M = V ∧ M.m = mb ∧ Y.tb = tb ∧ GKx w0 K L0 g us ord ∧ Gd N V ∧ r ∈ L0
section
variable {w0 w w1 w' : World} {K : Blocks} {L0 : List Rw} {v mb tb gb g N : Nat} {us us' : List GU} {ord : OrdX} {ord' : List Nm} {V : MV} {X : VX} {Y : Tab} {r : Rw}
theorem MgR.graft {S : Blocks} {L : List Rw} (h : MgR w0 v mb tb gb us ord N V r w) (k : Own ⟨w, S⟩ w1 L) (hg : GIn S L g us' ord') : MgR w0 v mb tb g us' ord' N V r w1 := by
  obtain ⟨K, L0, X, Y, M, h1, h2, h3, h4, h6, h7, h8⟩ := h
  exact ⟨S ++ K, L ++ L0, X, Y, M, h1.join k, h2, h3, h4, (hg.gk.mono (fun m hm => List.mem_append_left _ hm) (fun r hr => List.mem_append_left _ hr)).x, h7, List.mem_append_right _ h8⟩
theorem MgR.later (h : MgR w0 v mb tb g us ord N V r w) (hb : Below w.heap.size w w') : MgR w0 v mb tb g us ord N V r w' := by
  obtain ⟨K, L0, X, Y, M, h1, h2⟩ := h
  exact ⟨K, L0, X, Y, M, h1.later hb, h2⟩
set_option maxHeartbeats 2000000 in
theorem mdo_row (hm : Mx w0) {a : Option Addr} {cp : Nat} {ts : List (Int × Nm × Nm)} (h : MgR w0 v mb tb gb us ord N V (rowO (.slice a ts.length cp) (opsT ts)) w) (ht : TsOk ts) (cap : Nat) (hE : (DoE V.E (xsT ts)).1 = 0) (hB : V.bud.1 + ts.length ≤ 100000) (hl : lenT ts ≤ 4096) (hf : V.bud.2.1 + roomM (lenT ts) ≤ V.bud.2.2.1) (hst : V.bud.2.2.2 ≤ 1000000000) :
    Calls Tryz.prog 26 #[.pointer (some ⟨v, 0, none⟩), .slice a ts.length cap] w fun e w' => e = .returned (.int .i64 0) ∧ MgPre w0 v mb tb gb us ord N (doV V ts) w' := by
  obtain ⟨K, L0, X, Y, M, h1, rfl, rfl, rfl, hg, hG, hrow⟩ := h
  have hlen : (opsT ts).length = ts.length := by simp
  refine (h1.call (α := Dk) (P := fun _ e => e = .returned (.int .i64 0)) (X' := fun D' => doneS X (opsT ts) (xsT ts) D') (Y' := fun _ => Y) (fun _ => rfl) fun K' hV => ?_).mono fun e w' hh => ?_
  · refine VT.volE (X' := fun D' => doneS X (opsT ts) (xsT ts) D') (P := fun e => e = .returned (.int .i64 0)) hV fun S R L T hI hL => ?_
    have hr : rowO (.slice a (opsT ts).length cp) (opsT ts) ∈ L := by
      rw [hlen]
      exact hL _ hrow
    have := vdo_all hI hm (ops := opsT ts) (xs := xsT ts) (Ops.rowD hr (by simp) (opsT_in ht.size)) cap (fun o ho => by
      obtain ⟨t, h1, rfl⟩ := List.mem_map.1 ho
      exact ht.kind t h1) (fun o ho => by
      obtain ⟨t, h1, rfl⟩ := List.mem_map.1 ho
      have := ht.size t h1
      exact ⟨by show (toB t.2.1).size ≤ _; rw [toB_size]; omega, by show (toB t.2.2).size ≤ _; rw [toB_size]; omega⟩) (fun x hx => by
      obtain ⟨t, h1, rfl⟩ := List.mem_map.1 hx
      exact Nat.zero_le _) (fun o ho => by
      obtain ⟨t, h1, rfl⟩ := List.mem_map.1 ho
      rcases ht.two t h1 with h2 | h2 | h2
      · exact .inl h2
      · exact .inr (.inl h2)
      · refine .inr (.inr ?_)
        show toB t.2.2 = _
        rw [h2]) (by rw [hlen]; exact ht.pos) (by rw [hlen]; exact hB) hE (by rw [recO_len]; exact hl) (by rw [recO_len]; exact hf) hst
    rw [hlen] at this
    exact this
  · obtain ⟨D', h2, h3⟩ := hh
    refine ⟨h2, _, _, _, _, _, h3, ?_, rfl, rfl, hg, hG.do_ ts⟩
    show (⟨sweepE (DoE X.E (xsT ts)).2 X.held, X.held, Y.last, _, _, _, (X.B + (xsT ts).length, X.used + roomM (recO (pks (opsT ts) (xsT ts))).length, X.h, X.st + 100)⟩ : MV) = _
    rw [recO_len, List.length_map]
    rfl
set_option maxHeartbeats 2000000 in
theorem mnew_row (h : VT w0 K L0 v X Y w) (hG : Gd N (V0 X Y)) {r : Rw} (hr : r ∈ L0) : Calls Tryz.prog 48 #[.pointer (some ⟨Y.tb, 0, none⟩)] w fun e w' => ∃ mb g, e = .returned (.pointer (some ⟨mb, 0, none⟩)) ∧ MgR w0 v mb Y.tb g [] ([] : List Nm) N (V0 X Y) r w' ∧ w'.cell? ⟨mb, 0, none⟩ = some (.pointer (some ⟨Y.tb, 0, none⟩)) := by
  have hnew := new_any2 (arg_none w) (Nat.zero_le _) (fun n hn => nomatch hn) (fun u hu => nomatch hu)
  have HV := Lib.hid h.vtx
  have HG := Lib.hid hG
  generalize htb : Y.tb = tb at *
  have Htb := Lib.hid htb
  clear h hG htb
  go_enter Tryz.func48, Tryz.ntmps48
  go_wp2_with fail
  refine hnew.mono ?_
  rintro e w1 ⟨gv, nm, rfl, _, _, hgood, _⟩
  obtain ⟨g, S, L, rfl, hO, hgi⟩ := hgood (by decide)
  have he : errU [] = 0 := by decide
  rw [he]
  have hV1 := HV.out.join hO
  have hV2 := hV1.newK (.map #[] 0)
  have hV3 := (hV2.newK (.cells (mgCells tb ⟨w1.heap.size + 1, g, w1.heap.size, .slice none 0 0, [], []⟩) 107)).nilrow 79 2
  have hs1 : (w1.alloc (.map #[] 0)).heap.size = w1.heap.size + 1 := by simp
  rw [hs1] at hV3
  obtain ⟨LL, hOK, _⟩ := hV1.ownK
  have hin : MgIn w0 (S ++ K) (L ++ L0) v X Y ⟨w1.heap.size + 1, g, w1.heap.size, .slice none 0 0, [], []⟩ ((w1.alloc (.map #[] 0)).alloc (.cells (mgCells tb ⟨w1.heap.size + 1, g, w1.heap.size, .slice none 0 0, [], []⟩) 107)) := by
    refine ⟨⟨.map #[] 0, by rw [Htb.out]; exact hV3, MapO.empty _⟩, by show w1.heap.size + 1 ≠ w1.heap.size; omega, fun b x hb => ?_, fun p hp => nomatch hp⟩
    have := (hOK.atLt hb).2
    exact ⟨by show b ≠ w1.heap.size + 1; omega, by show b ≠ w1.heap.size; omega⟩
  have HC := Lib.hid (cell_at hin.block 0)
  have HP := Lib.hid (show MgR w0 v (w1.heap.size + 1) tb g [] ([] : List Nm) N (V0 X Y) r ((w1.alloc (.map #[] 0)).alloc (.cells (mgCells tb ⟨w1.heap.size + 1, g, w1.heap.size, .slice none 0 0, [], []⟩) 107)) from ⟨_, _, X, Y, _, hin, rfl, rfl, Htb.out, (hgi.gk.mono (fun m hm => List.mem_append_left _ hm) (fun r hr => List.mem_append_left _ hr)).x, HG.out, List.mem_append_right _ hr⟩)
  rw [Htb.out] at HC
  have hmk : ∀ w : World, (Instr.makeMap 105 none).run Tryz.prog w = .ok (.map (some w.heap.size)) (w.alloc (.map #[] 0)) := fun w => rfl
  clear hnew hgood hO hgi he hV1 hV2 hV3 hs1 hOK hin
  unfold mgCells at HP HC
  dsimp only at HP HC
  go_wp2_with fail
  go_ret
  refine ⟨_, _, ?_, HP.out, HC.out⟩
  simp
end
end Go.Proofs.YtfffkgbnjakhnaaGreatDoor
end

/- Law 17's open: a volume with five files, and a manager over it whose units have some of them. -/
section
namespace Go.Proofs.YtfffkgbnjakhnaaGreatDoor
open Go.RowKit
open Go.ChangeMaps (setBlock)
set_option linter.unusedVariables false
set_option linter.unusedSimpArgs false
set_option maxRecDepth 100000

abbrev sA : Value := .string ⟨#[47, 97]⟩
abbrev sB : Value := .string ⟨#[47, 98]⟩
abbrev sC : Value := .string ⟨#[47, 99]⟩
abbrev sD : Value := .string ⟨#[47, 100]⟩
abbrev un (n : ByteArray) (b k : Nat) : List Value := [.string n, .slice (some ⟨b, 0, none⟩) k k, .slice none 0 0, .slice none 0 0, .slice none 0 0, .slice none 0 0, .slice none 0 0, .int .i64 0]
abbrev W5 (w : World) : World := ((((w.alloc (.cells #[sA] 9)).alloc (.cells #[sB, sC] 9)).alloc (.cells #[sA, sC, sD] 9)).alloc (.cells #[sD] 9)).alloc (.cells #[.string ⟨#[117]⟩, .slice (some ⟨w.heap.size, 0, none⟩) 1 1, .slice none 0 0, .slice none 0 0, .slice none 0 0, .slice none 0 0, .slice none 0 0, .int .i64 0, .string ⟨#[118]⟩, .slice (some ⟨w.heap.size + 1, 0, none⟩) 2 2, .slice none 0 0, .slice none 0 0, .slice none 0 0, .slice none 0 0, .slice none 0 0, .int .i64 0, .string ⟨#[119]⟩, .slice (some ⟨w.heap.size + 1 + 1, 0, none⟩) 3 3, .slice none 0 0, .slice none 0 0, .slice none 0 0, .slice none 0 0, .slice none 0 0, .int .i64 0, .string ⟨#[120]⟩, .slice (some ⟨w.heap.size + 1 + 1 + 1, 0, none⟩) 1 1, .slice none 0 0, .slice none 0 0, .slice none 0 0, .slice none 0 0, .slice none 0 0, .int .i64 0] 42)
theorem argN (w : World) : UArg (W5 w) (.slice (some ⟨w.heap.size + 1 + 1 + 1 + 1, 0, none⟩) 4 4) usN ∧ Below w.heap.size w (W5 w) := by
  have O1 := (Own.start w).made_at 9 1 #[sA] 1 w.heap.size rfl rfl (by unfold maxLen; decide)
  have O2 := O1.made_at 9 1 #[sB, sC] 2 (w.heap.size + 1) (by simp) rfl (by unfold maxLen; decide)
  have O3 := O2.made_at 9 1 #[sA, sC, sD] 3 (w.heap.size + 1 + 1) (by simp) rfl (by unfold maxLen; decide)
  have O4 := O3.made_at 9 1 #[sD] 1 (w.heap.size + 1 + 1 + 1) (by simp) rfl (by unfold maxLen; decide)
  have O5 := O4.made_at 42 8 #[.string ⟨#[117]⟩, .slice (some ⟨w.heap.size, 0, none⟩) 1 1, .slice none 0 0, .slice none 0 0, .slice none 0 0, .slice none 0 0, .slice none 0 0, .int .i64 0, .string ⟨#[118]⟩, .slice (some ⟨w.heap.size + 1, 0, none⟩) 2 2, .slice none 0 0, .slice none 0 0, .slice none 0 0, .slice none 0 0, .slice none 0 0, .int .i64 0, .string ⟨#[119]⟩, .slice (some ⟨w.heap.size + 1 + 1, 0, none⟩) 3 3, .slice none 0 0, .slice none 0 0, .slice none 0 0, .slice none 0 0, .slice none 0 0, .int .i64 0, .string ⟨#[120]⟩, .slice (some ⟨w.heap.size + 1 + 1 + 1, 0, none⟩) 1 1, .slice none 0 0, .slice none 0 0, .slice none 0 0, .slice none 0 0, .slice none 0 0, .int .i64 0] 4 (w.heap.size + 1 + 1 + 1 + 1) (by simp) rfl (by unfold maxLen; decide)
  refine ⟨uarg_of (xs := [⟨[117], .slice (some ⟨w.heap.size, 0, none⟩) 1 1, .slice none 0 0, .slice none 0 0, .slice none 0 0, .slice none 0 0, .slice none 0 0, 0⟩, ⟨[118], .slice (some ⟨w.heap.size + 1, 0, none⟩) 2 2, .slice none 0 0, .slice none 0 0, .slice none 0 0, .slice none 0 0, .slice none 0 0, 0⟩, ⟨[119], .slice (some ⟨w.heap.size + 1 + 1, 0, none⟩) 3 3, .slice none 0 0, .slice none 0 0, .slice none 0 0, .slice none 0 0, .slice none 0 0, 0⟩, ⟨[120], .slice (some ⟨w.heap.size + 1 + 1 + 1, 0, none⟩) 1 1, .slice none 0 0, .slice none 0 0, .slice none 0 0, .slice none 0 0, .slice none 0 0, 0⟩]) O5 ?_ (fun x hx => by
    simp only [List.mem_cons, List.not_mem_nil, or_false] at hx
    rcases hx with rfl | rfl | rfl | rfl <;> (intro v hv; simp only [List.mem_cons, List.not_mem_nil, or_false] at hv; rcases hv with rfl | rfl | rfl | rfl | rfl | rfl <;> first | exact .inl rfl | exact .inr ⟨_, _, _, rfl⟩)), O5.below⟩
  have n0 := sts_nil (W5 w)
  have s1 : Sts (W5 w) (.slice (some ⟨w.heap.size, 0, none⟩) 1 1) [[47, 97]] := (O5.only (r := rowSs (.slice (some ⟨w.heap.size, 0, none⟩) 1 1) [[47, 97]]) (List.mem_cons_of_mem _ (List.mem_cons_of_mem _ (List.mem_cons_of_mem _ (List.mem_cons_of_mem _ (List.mem_cons_self ..)))))).sts
  have s2 : Sts (W5 w) (.slice (some ⟨w.heap.size + 1, 0, none⟩) 2 2) [[47, 98], [47, 99]] := (O5.only (r := rowSs (.slice (some ⟨w.heap.size + 1, 0, none⟩) 2 2) [[47, 98], [47, 99]]) (List.mem_cons_of_mem _ (List.mem_cons_of_mem _ (List.mem_cons_of_mem _ (List.mem_cons_self ..))))).sts
  have s3 : Sts (W5 w) (.slice (some ⟨w.heap.size + 1 + 1, 0, none⟩) 3 3) [[47, 97], [47, 99], [47, 100]] := (O5.only (r := rowSs (.slice (some ⟨w.heap.size + 1 + 1, 0, none⟩) 3 3) [[47, 97], [47, 99], [47, 100]]) (List.mem_cons_of_mem _ (List.mem_cons_of_mem _ (List.mem_cons_self ..)))).sts
  have s4 : Sts (W5 w) (.slice (some ⟨w.heap.size + 1 + 1 + 1, 0, none⟩) 1 1) [[47, 100]] := (O5.only (r := rowSs (.slice (some ⟨w.heap.size + 1 + 1 + 1, 0, none⟩) 1 1) [[47, 100]]) (List.mem_cons_of_mem _ (List.mem_cons_self ..))).sts
  exact .cons ⟨rfl, rfl, s1, n0, n0, n0, n0, n0⟩ (.cons ⟨rfl, rfl, s2, n0, n0, n0, n0, n0⟩ (.cons ⟨rfl, rfl, s3, n0, n0, n0, n0, n0⟩ (.cons ⟨rfl, rfl, s4, n0, n0, n0, n0, n0⟩ .nil)))
theorem newGN {w0 w : World} {v mb tb gb N : Nat} {us : List GU} {ord : OrdX} {V : MV} {r : Rw} (h : MgR w0 v mb tb gb us ord N V r w) : Calls Tryz.prog 8 #[.slice (some ⟨w.heap.size + 1 + 1 + 1 + 1, 0, none⟩) 4 4] (W5 w) fun e w' => ∃ g nb, e = .returned (.tuple #[.pointer (some ⟨g, 0, none⟩), .int .i64 0, .string nb]) ∧ MgR w0 v mb tb g usN (ordU usN) N V r w' := by
  obtain ⟨h1, h2⟩ := argN w
  refine (new_any2 h1 (by decide) (by decide) (fun u hu => bnd_small (by
    simp only [usN, List.mem_cons, List.not_mem_nil, or_false] at hu
    rcases hu with rfl | rfl | rfl | rfl <;> decide))).mono ?_
  rintro e w' ⟨gv, nm, rfl, _, _, hg, _⟩
  obtain ⟨g, S, L, rfl, hO, hgi⟩ := hg errN
  rw [errN]
  exact ⟨g, _, rfl, (h.later h2).graft hO hgi⟩
def nms5 : List Nm := [[97], [98], [99], [100], [101]]
theorem names17 (w : World) : Calls Tryz.prog 30 #[] w fun e w' => ∃ g, e = .returned (.slice (some ⟨g, 0, none⟩) 5 5) ∧ Own w w' [rowSs (.slice (some ⟨g, 0, none⟩) 5 5) nms5] := by
  have hO := (Own.start w).made 9 1 #[.string ⟨#[97]⟩, .string ⟨#[98]⟩, .string ⟨#[99]⟩, .string ⟨#[100]⟩, .string ⟨#[101]⟩] 5 rfl (by unfold maxLen; decide)
  go_enter Tryz.func30, Tryz.ntmps30
  go_wp2_with fail
  go_ret
  exact ⟨_, rfl, hO⟩
def OpsRel17 (w2 : World) (s4 s32 : Value) (L : List Rw) (wr : World) : Prop := ∃ k : Nat, k ≤ 5 ∧ s32 = .int .i64 k ∧ Own w2 wr (rowO s4 (opsT (ts5.take k)) :: L)
theorem nms5_at (k : Nat) (hk : k < 5) : ∃ n : Nm, (∃ h : k < nms5.length, nms5[k] = n) ∧ n.length ≤ 100 ∧ opsT (ts5.take (k + 1)) = opsT (ts5.take k) ++ [⟨2, ⟨#[47]⟩ ++ toB n, ⟨#[]⟩, none, 0, 0⟩] := by
  match k, hk with
  | 0, _ => exact ⟨[97], ⟨by decide, rfl⟩, by decide, rfl⟩
  | 1, _ => exact ⟨[98], ⟨by decide, rfl⟩, by decide, rfl⟩
  | 2, _ => exact ⟨[99], ⟨by decide, rfl⟩, by decide, rfl⟩
  | 3, _ => exact ⟨[100], ⟨by decide, rfl⟩, by decide, rfl⟩
  | 4, _ => exact ⟨[101], ⟨by decide, rfl⟩, by decide, rfl⟩
  | n + 5, h => omega
set_option maxHeartbeats 16000000 in
theorem open17 (w : World) (hm : Mx w) : Calls Tryz.prog 29 #[] w fun e w' => ∃ v mb tb g, e = .returned (.tuple #[.pointer (some ⟨v, 0, none⟩), .pointer (some ⟨mb, 0, none⟩)]) ∧ MgAt w v mb tb g usN (ordU usN) 0 VN w' := by
  obtain ⟨inf, Hi0, Hi1, Hi2, Hi3⟩ := info_op3
  have hnew := new_pos w w [] 800 (Own.start w) (by decide) (by decide)
  have HM := Lib.hid hm
  clear hm
  go_enter Tryz.func29, Tryz.ntmps29
  go_wp2_with fail
  refine hnew.mono ?_
  rintro e w1 ⟨d, rfl, hA1⟩
  have hop := vopen_new (w0 := w) (S := []) (L := []) hA1 (by decide) (by decide) 3000 (by decide)
  clear hnew hA1
  go_wp2_with fail
  refine hop.mono ?_
  rintro e w2 ⟨v, t, l, hmb, D, S1, R1, T1, rfl, h1, _, _⟩
  have c0 : w2.cell? ⟨v, 0, none⟩ = some (.pointer (some ⟨t, 0, none⟩)) := h1.atV.1.1
  have H1 := Lib.hid h1
  have hO := (Own.start w2).made 63 4 #[] 0 rfl (by unfold maxLen; decide)
  have HO := Lib.hid hO
  clear hop h1 hO
  go_upto_region 5 with fail
  obtain ⟨b0, hb0⟩ : ∃ b0, w2.heap.size = b0 := ⟨_, rfl⟩
  rw [hb0] at HO ⊢
  generalize w2.alloc (.cells #[] 63) = w3 at *
  have hnm := names17 w3
  clear hb0 c0
  go_wp2_with fail
  refine hnm.mono ?_
  rintro e w4 ⟨nb, rfl, hO4⟩
  have HR := Lib.hid (show OpsRel17 w2 (.slice (some ⟨b0, 0, none⟩) 0 0) (.int .i64 0) [rowSs (.slice (some ⟨nb, 0, none⟩) 5 5) nms5] w4 from ⟨0, by decide, rfl, (HO.out.join hO4).swap⟩)
  clear hnm hO4 HO
  go_wp2_with fail
  go_loopw [4, 32] (fun s4 s32 wr => OpsRel17 w2 s4 s32 [rowSs (.slice (some ⟨nb, 0, none⟩) 5 5) nms5] wr) (fun _ s32 _ => 5 - (intOf s32).toNat)
  case atStart => exact HR.out
  case round =>
    obtain ⟨k, hk, rfl, hO⟩ := hrel
    clear HR
    have h4 : (opsT (ts5.take k)).length = k := by rw [List.length_map, List.length_take]; show min k 5 = k; omega
    obtain ⟨a4, c4, hv4, _, _⟩ := Own.sized (h := (show Own _ wr (⟨63, 4, u4, (opsT (ts5.take k)).length, ((opsT (ts5.take k)).map OpD.cells).flatten⟩ :: [rowSs (.slice (some ⟨nb, 0, none⟩) 5 5) nms5]) from hO))
    subst hv4
    by_cases hlt : k < 5
    · have hki : (k : Int) < 5 := by omega
      have hk0 : (0 : Int) ≤ (k : Int) := by omega
      obtain ⟨nm, ⟨hkl, hat⟩, hnl, ht⟩ := nms5_at k hlt
      have ck : wr.cell? ⟨nb, k, none⟩ = some (.string (toB nm)) := by
        have hst := (hO.only (r := rowSs (.slice (some ⟨nb, 0, none⟩) 5 5) nms5) (by simp)).sts
        obtain ⟨a', c', e, _, _, g⟩ := hst
        obtain ⟨b, o, g1, _, g3⟩ := g (by decide)
        injection e with e1 e2 e3
        rw [g1] at e1
        injection e1 with e1
        injection e1 with e4 e5
        have := g3 k hkl
        rw [← e4, ← e5, Nat.zero_add, hat] at this
        exact this
      have hsz : (toB nm).size ≤ 100 := by rw [toB_size]; exact hnl
      have HT := Lib.hid ht
      clear ht hat hnl
      generalize toB nm = xb at *
      have H4 := Lib.hid h4
      have HA := Lib.hid (show Own _ (wr.alloc (.cells #[.int .i64 2, .string (⟨#[47]⟩ ++ xb), .string ⟨#[]⟩, .slice none 0 0] 63)) (⟨63, 4, .slice a4 (opsT (ts5.take k)).length c4, (opsT (ts5.take k)).length, ((opsT (ts5.take k)).map OpD.cells).flatten⟩ :: [rowSs (.slice (some ⟨nb, 0, none⟩) 5 5) nms5]) from hO.alloc _)
      have Hsrc := Lib.hid (lit_src wr (OpD.cells ⟨2, ⟨#[47]⟩ ++ xb, ⟨#[]⟩, none, 0, 0⟩) 63 (op_one _) wr.heap.size rfl)
      have Hb1 := Lib.hid (show (opsT (ts5.take k)).length + 1 ≤ maxLen from by rw [h4]; unfold maxLen; omega)
      have Hb2 := Lib.hid (show ((opsT (ts5.take k)).length + 1) * 64 ≤ 140737488355328 from by rw [h4]; omega)
      have HK := Lib.hid hlt
      clear hO h4 hlt
      generalize hol : (opsT (ts5.take k)).length = ol at *
      generalize hfl : ((opsT (ts5.take k)).map OpD.cells).flatten = fl at *
      have Hol := Lib.hid hol
      have Hfl := Lib.hid hfl
      clear hol hfl
      go_wp2_with (at_builtin; refine wpList_append_src rfl (.tmp 36) (.tmp 40) 101 rfl (.slice a4 ol c4) ol fl (.slice (some ⟨wr.heap.size, 0, none⟩) 1 1) 1 (OpD.cells ⟨2, ⟨#[47]⟩ ++ xb, ⟨#[]⟩, none, 0, 0⟩) rfl rfl HA.out inf zOp 64 Tryz.underlying101 Hi0 Hi1 Hi2 Hi3 zOp_size (by decide) Hsrc.out rfl Hb1.out Hb2.out ?_)
      intro v5 w5 hO5
      obtain ⟨a5, c5, hv5, _, _⟩ := Own.sized (h := hO5)
      subst hv5
      have HN := Lib.hid (show Own w2 w5 (rowO (.slice a5 (ol + 1) c5) (opsT (ts5.take (k + 1))) :: [rowSs (.slice (some ⟨nb, 0, none⟩) 5 5) nms5]) from by
        rw [HT.out]
        unfold rowO
        rw [List.length_append, List.map_append, List.flatten_append, Hol.out, Hfl.out]
        simpa using hO5)
      clear hO5 ck
      go_wp2_with fail
      go_roundw
      case rel => exact ⟨k + 1, by have := HK.out; omega, by go_num, HN.out⟩
      case measure => have := HK.out; simp [intOf]; omega
    · obtain rfl : k = 5 := by omega
      rw [show ts5.take 5 = ts5 from rfl] at hO
      have h1 := H1.out.join (show Own w2 wr [rowO (.slice a4 5 c4) (opsT ts5)] from hO.only (List.mem_cons_self ..))
      rw [show (opsT (ts5.take 5)).length = 5 from rfl]
      have hpn := pnew_any (L0 := [rowO (.slice a4 5 c4) (opsT ts5)]) (show VolAt w wr [] [rowO (.slice a4 5 c4) (opsT ts5)] v _ from ⟨S1, R1, _, T1, h1, (fun x hx => List.mem_append_left _ hx), fun b x hb => by cases hb⟩)
      unfold filesV at hpn
      clear H1 h1 hO h4
      go_wp2_with fail
      refine hpn.mono ?_
      rintro e w7 ⟨Y, rfl, hl, hr, h7⟩
      have hV0 : V0 (newX t d l hmb 3000 D 800) Y = VN0 := by
        unfold V0
        rw [hl, hr]
        rfl
      have hmn := mnew_row h7 (N := 0) (by rw [hV0]; exact gd_new ⟨rfl, rfl, rfl, rfl, rfl⟩) (List.mem_singleton.2 rfl)
      rw [hV0] at hmn
      generalize Y.tb = tb at *
      clear hpn h7 hV0 hl hr
      go_wp2_with fail
      refine hmn.mono ?_
      rintro e w8 ⟨mb, g0, rfl, h8, c8⟩
      have hgn := newGN h8
      clear hmn h8 c8
      go_wp2_with fail
      refine hgn.mono ?_
      rintro e w9 ⟨g, nb9, rfl, h9⟩
      have hdo := mdo_row HM.out h9 ts5_ok c4 (by rw [show VN0.E = E0 3000 from rfl, do_N]; first | done | rfl) (by decide) (by decide) (by decide) (by decide)
      clear hgn h9
      go_wp2_with fail
      refine hdo.mono ?_
      rintro e w10 ⟨rfl, h10⟩
      have c10 : w10.cell? ⟨mb, 0, none⟩ = some (.pointer (some ⟨tb, 0, none⟩)) := by
        obtain ⟨K, L0, X, Y, M, k1, _, rfl, rfl, _⟩ := h10
        exact k1.cells.1.1
      have hset := set_at16 h10
      clear hdo h10
      go_wp2_with fail
      refine hset.mono ?_
      rintro e w11 ⟨rfl, h11⟩
      have H11 := Lib.hid h11
      clear hset h11
      go_wp2_with fail
      go_ret2
      exact ⟨v, mb, tb, g, rfl, H11.out⟩
end Go.Proofs.YtfffkgbnjakhnaaGreatDoor
end

/- Law 17's states, plain. -/
section
namespace Go.Proofs.YtfffkgbnjakhnaaGreatDoor
open Go.RowKit
open Go.ChangeMaps (setBlock)
set_option linter.unusedVariables false
set_option linter.unusedSimpArgs false
set_option maxRecDepth 100000

theorem ndok_of {V : MV} (h0 : look V.runs 0 = none) (h : ∀ p ∈ V.mr, (mapsV V p.2.pid).length = p.2.files.length ∧ p.2.files.length ≤ 1000 ∧ ∀ f ∈ p.2.files, f.length ≤ 1000000) : NdOk V := by
  have key : ∀ n, (mapsV V (ofV V n).pid).length = (ofV V n).files.length ∧ (ofV V n).files.length ≤ 1000 ∧ ∀ f ∈ (ofV V n).files, f.length ≤ 1000000 := fun n => by
    unfold ofV
    cases hl : look V.mr n with
    | none =>
      refine ⟨?_, Nat.zero_le _, fun f hf => nomatch hf⟩
      show (mapsV V 0).length = 0
      unfold mapsV
      rw [h0]; rfl
    | some r => exact h _ (look_mem hl)
  exact ⟨fun n => (key n).1, fun n => (key n).2.1, fun n => (key n).2.2⟩
def tsC : List (Int × Nm × Nm) := [(2, [47, 110, 101, 119], []), (5, [47, 110, 101, 119], [47, 99])]
theorem tsC_ok : TsOk tsC := ⟨by decide, by decide, by decide, by decide⟩
def VA1 : MV := (startV usN VN [117]).2
def VA2 : MV := (startV usN VA1 [118]).2
def VA3 : MV := doV VA2 tsC
theorem va1 : startV usN VN [117] = (0, VA1) := by rfl
theorem va2 : startV usN VA1 [118] = (0, VA2) := by rfl
theorem va3 : (DoE VA2.E (xsT tsC)).1 = 0 := by rfl
theorem nd2 : NdOk VA2 := ndok_of (by rfl) (by decide)
theorem nd3 : NdOk VA3 := ndok_of (by rfl) (by decide)
theorem of3 : ofN VA3 [117] = false ∧ ofN VA3 [118] = true ∧ ofN VA3 [120] = false := ⟨by rfl, by rfl, by rfl⟩
theorem st3 : staleE VA3.E [47, 99] 4 = true ∧ staleE VA3.E [47, 97] 2 = false := ⟨by rfl, by rfl⟩
theorem hit2 : hitV VA2 = [] := by rfl
theorem hit3 : hitV VA3 = [[118]] := by rfl
end Go.Proofs.YtfffkgbnjakhnaaGreatDoor
end
