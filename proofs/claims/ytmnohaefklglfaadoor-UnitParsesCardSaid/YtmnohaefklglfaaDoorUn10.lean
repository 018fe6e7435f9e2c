/- A text's unit: the call. -/
import Derived.Test.YtmnohaefklglfaaDoorUn9
namespace Go.Proofs.YtmnohaefklglfaaDoor
open Go.RowKit
open Go.ChangeMaps (setBlock)
set_option linter.unusedVariables false
set_option linter.unusedSimpArgs false
set_option maxRecDepth 100000
attribute [local go_sem] Oper.semAt_some

theorem seq_any (w : World) (s : ByteArray) : Calls Tryd.prog 16 #[.string s, .string ⟨#[10]⟩] w fun e w' => e = .returned (.func (.func 34) #[] #[.pointer (some ⟨w.heap.size + 1, 0, none⟩), .pointer (some ⟨w.heap.size, 0, none⟩), .pointer (some ⟨w.heap.size + 2, 0, none⟩)]) ∧
    w' = ((w.alloc (.cells #[.string s] 9)).alloc (.cells #[.string ⟨#[10]⟩] 9)).alloc (.cells #[.int .i64 0] 3) := by
  have h1 : Calls Tryd.prog 24 #[.string s, .string ⟨#[10]⟩, .int .i64 0] w fun e w' => e = .returned (.func (.func 34) #[] #[.pointer (some ⟨w.heap.size + 1, 0, none⟩), .pointer (some ⟨w.heap.size, 0, none⟩), .pointer (some ⟨w.heap.size + 2, 0, none⟩)]) ∧
      w' = ((w.alloc (.cells #[.string s] 9)).alloc (.cells #[.string ⟨#[10]⟩] 9)).alloc (.cells #[.int .i64 0] 3) := by
    go_enter Tryd.func24, Tryd.ntmps24
    go_wp2_with fail
    go_ret
    exact ⟨rfl, rfl⟩
  go_enter Tryd.func16, Tryd.ntmps16
  go_wp2_with fail
  refine h1.mono ?_
  rintro e w2 ⟨rfl, rfl⟩
  go_wp2_with fail
  go_ret
  exact ⟨rfl, rfl⟩
/-- What lies beside the first line. -/
theorem start_u {w W4 w5 W10 : World} {o : Obj} (hW4 : W4 = (((w.alloc (.cells zeroU 25)).alloc (.cells #[.int .i64 0] 26)).alloc (.cells #[.int .i64 0] 3)).alloc (.cells zeroU 25))
    (hb5 : Below W4.heap.size W4 w5) (ho : w5.heap[W4.heap.size]? = some o) (hmu : MapU (w.heap.size + 1 + 1 + 1) o) (hs4 : W4.heap.size = w.heap.size + 1 + 1 + 1 + 1) (s : ByteArray)
    (hW10 : W10 = (((((w5.alloc (.cells #[.pointer (some ⟨w.heap.size + 1 + 1 + 1, 0, none⟩), .map (some (w.heap.size + 1 + 1 + 1 + 1)), .bool false] 48)).alloc (.cells #[.int .i64 0] 3)).alloc (.cells #[.string s] 9)).alloc (.cells #[.string ⟨#[10]⟩] 9)).alloc (.cells #[.int .i64 0] 3))) :
    StP w ⟨w.heap.size + 1 + 1 + 1, w.heap.size + 1 + 1 + 1 + 1, w5.heap.size, w.heap.size, w.heap.size + 1, w.heap.size + 1 + 1, w5.heap.size + 1, w5.heap.size + 1 + 1, w5.heap.size + 1 + 1 + 1, w5.heap.size + 1 + 1 + 2⟩ 0 0 0 UD0 W10 ∧ ∀ l, s = toB l → SeqAt (w5.heap.size + 1 + 1) (w5.heap.size + 1 + 1 + 1) (w5.heap.size + 1 + 1 + 2) l W10 := by
  have h5 : w.heap.size + 1 + 1 + 1 + 1 < w5.heap.size := by rw [← hs4]; exact lt_of_heap ho
  have O1 := (Own.start w).newB (.cells zeroU 25)
  have O2 := O1.newB (.cells #[.int .i64 0] 26)
  have O3 := O2.newB (.cells #[.int .i64 0] 3)
  have O4 := O3.newB (.cells zeroU 25)
  rw [← hW4] at O4
  have O5 := (O4.later hb5).addB (b := w.heap.size + 1 + 1 + 1 + 1) (o := o) (by omega) (by rw [← hs4]; exact ho) (fun p hp => nomatch hp)
  have O6 := O5.newB (.cells #[.pointer (some ⟨w.heap.size + 1 + 1 + 1, 0, none⟩), .map (some (w.heap.size + 1 + 1 + 1 + 1)), .bool false] 48)
  have O7 := O6.newB (.cells #[.int .i64 0] 3)
  have O8 := O7.newB (.cells #[.string s] 9)
  have O9 := O8.newB (.cells #[.string ⟨#[10]⟩] 9)
  have O10 := O9.newB (.cells #[.int .i64 0] 3)
  simp only [World.size_alloc] at O10
  have OR := ((((((O10.nil 9 1).nil 9 1).nil 9 1).nil 9 1).nil 9 1).nil 9 1)
  rw [← hW10] at OR
  refine ⟨?_, fun l hl => ⟨by rw [← hl]; exact OR.at (by simp), OR.at (by simp), OR.at (by simp)⟩⟩
  refine ⟨.string s, _, [.slice none 0 0, .slice none 0 0, .slice none 0 0, .slice none 0 0, .slice none 0 0, .slice none 0 0], o, OR, ?_, ?_, hmu, ?_, rfl, rfl, ?_, ?_⟩
  · show (_, Obj.cells zeroU 25) ∈ _
    simp
  · simp
  · show (_, Obj.cells #[.pointer (some ⟨w.heap.size + 1 + 1 + 1, 0, none⟩), .map (some (w.heap.size + 1 + 1 + 1 + 1)), .bool false] 48) ∈ _
    simp
  · intro x hx
    simp only [PB.K, List.mem_cons, List.not_mem_nil, or_false] at hx
    rcases hx with rfl | rfl | rfl | rfl | rfl | rfl | rfl <;> simp
  · simp [PB.K]
    omega
set_option maxHeartbeats 8000000 in
theorem parse_any (w : World) (hm : Mx w) (s : List UInt8) (hs : s.length ≤ 100000) :
    Calls Tryd.prog 7 #[.string (toB s)] w (ParsePost w s) := by
  have hli := fun w ub => callsIn_wide (n := 2) |>.2 (lists_any w ub)
  have hsq := fun w => callsIn_wide (n := 2) |>.2 (seq_any w (toB s))
  refine (callsIn_wide (n := 3)).1 ?_
  refine callsIn_of_wp_marks Tryd.func7 rfl trivial ?_ rfl
  simp only [Tryd.ntmps7, List.size_toArray, List.length_cons, List.length_nil, Nat.reduceAdd, Nat.reduceSub, Array.replicate_succ, Array.replicate_zero, List.push_toArray, List.append_toArray, List.nil_append, List.cons_append]
  obtain ⟨W4, hW4⟩ : ∃ W4, W4 = (((w.alloc (.cells zeroU 25)).alloc (.cells #[.int .i64 0] 26)).alloc (.cells #[.int .i64 0] 3)).alloc (.cells zeroU 25) := ⟨_, rfl⟩
  have hW4' := hW4
  unfold zeroU at hW4
  have hl4 := hli W4 (w.heap.size + 1 + 1 + 1)
  have hs4 : W4.heap.size = w.heap.size + 1 + 1 + 1 + 1 := by rw [hW4]; simp
  gi_wp2_with (refine ⟨trivial, ?_⟩; gi_at_call 15; rw [← hW4]; refine hl4.mono ?_; rintro e w5 ⟨rfl, ⟨o, ho, hmu⟩, hb5⟩; rw [hs4])
  obtain ⟨W10, hW10⟩ : ∃ W10, W10 = (((((w5.alloc (.cells #[.pointer (some ⟨w.heap.size + 1 + 1 + 1, 0, none⟩), .map (some (w.heap.size + 1 + 1 + 1 + 1)), .bool false] 48)).alloc (.cells #[.int .i64 0] 3)).alloc (.cells #[.string (toB s)] 9)).alloc (.cells #[.string ⟨#[10]⟩] 9)).alloc (.cells #[.int .i64 0] 3)) := ⟨_, rfl⟩
  have h5 : w.heap.size + 1 + 1 + 1 + 1 < w5.heap.size := by rw [← hs4]; exact lt_of_heap ho
  have HS := Lib.hid (start_u hW4' hb5 ho hmu hs4 (toB s) hW10)
  have hsz7 : ((w5.alloc (.cells #[.pointer (some ⟨w.heap.size + 1 + 1 + 1, 0, none⟩), .map (some (w.heap.size + 1 + 1 + 1 + 1)), .bool false] 48)).alloc (.cells #[.int .i64 0] 3)).heap.size = w5.heap.size + 1 + 1 := by simp
  have hs7 := hsq ((w5.alloc (.cells #[.pointer (some ⟨w.heap.size + 1 + 1 + 1, 0, none⟩), .map (some (w.heap.size + 1 + 1 + 1 + 1)), .bool false] 48)).alloc (.cells #[.int .i64 0] 3))
  rw [hsz7] at hs7
  have hsz10 : W10.heap.size = w5.heap.size + 1 + 1 + 1 + 1 + 1 := by rw [hW10]; simp
  have HQ := Lib.hid (HS.out.2 s rfl)
  obtain ⟨H, hH⟩ : ∃ H, w.heap.size = H := ⟨_, rfl⟩
  obtain ⟨P, hP⟩ : ∃ P, w5.heap.size = P := ⟨_, rfl⟩
  have HS1 := Lib.hid HS.out.1
  have hlen := lines_len s
  clear hli hsq hmu ho hb5 hl4 HS
  gi_wp2_with (refine ⟨trivial, ?_⟩; gi_at_call 16; refine hs7.mono ?_; rintro e w8 ⟨rfl, hw8⟩; rw [← hW10] at hw8; clear hW10; subst hw8)
  rw [hH, hP] at HS1
  rw [hP] at HQ hsz10 h5
  rw [hH] at h5
  try simp only [hH, hP]
  clear hs4 hW4' hW4 hs7 hsz7
  have hHle : w.heap.size ≤ w8.heap.size := by rw [hH, hsz10]; omega
  refine range_box (F := Fence.wide) (n := 3) rfl (by decide) (gf := 34) (lb := #[.pointer (some ⟨P + 1 + 1 + 1, 0, none⟩), .pointer (some ⟨P + 1 + 1, 0, none⟩), .pointer (some ⟨P + 1 + 1 + 2, 0, none⟩)]) rfl trivial (enters_of Tryd.func34 (by kernel_rfl) rfl)
    (lines_iter 2 (by decide) s (by omega) (P + 1 + 1) (P + 1 + 1 + 1) (P + 1 + 1 + 2) ⟨by omega, by omega⟩ w8 HQ.out) (fun k hk => by simp only [List.mem_cons, List.not_mem_nil, or_false] at hk; rw [hsz10]; omega) (by rw [hsz10]; omega) (fun _ => rfl)
    (fun pre W => ∃ u', runU UD0 0 pre = (0, pre.length, u') ∧ StP w ⟨H + 1 + 1 + 1, H + 1 + 1 + 1 + 1, P, H, H + 1, H + 1 + 1, P + 1, P + 1 + 1, P + 1 + 1 + 1, P + 1 + 1 + 2⟩ 0 pre.length 0 u' W)
    (fun c pre W => c = .ret ∧ ∃ e u', runU UD0 0 pre = (e, pre.length, u') ∧ e ≠ 0 ∧ StP w ⟨H + 1 + 1 + 1, H + 1 + 1 + 1 + 1, P, H, H + 1, H + 1 + 1, P + 1, P + 1 + 1, P + 1 + 1 + 1, P + 1 + 1 + 2⟩ e pre.length pre.length u' W)
    (fun pre A B row hs hg hr => ?ownI) (fun c pre A B row hs hg hr => ?ownX) (fun pre V v hs => ?turnI) (fun c pre V v hs => ?turnX) ⟨UD0, rfl, HS1.out⟩
    (fun x => { tmps := #[.string (toB s), undef, .pointer (some ⟨H, 0, none⟩), .pointer (some ⟨H + 1, 0, none⟩), .pointer (some ⟨H + 1 + 1, 0, none⟩), .pointer (some ⟨H + 1 + 1 + 1, 0, none⟩), .pointer (some ⟨P, 0, none⟩), .pointer (some ⟨P + 1, 0, none⟩), .string (toB x), undef, .map (some (H + 1 + 1 + 1 + 1)), .agg #[.pointer (some ⟨H + 1 + 1 + 1, 0, none⟩), .map (some (H + 1 + 1 + 1 + 1)), .bool false], .string (toB s),
      .func (.func 34) #[] #[.pointer (some ⟨P + 1 + 1 + 1, 0, none⟩), .pointer (some ⟨P + 1 + 1, 0, none⟩), .pointer (some ⟨P + 1 + 1 + 2, 0, none⟩)], .string (toB x), undef, undef, undef, undef, undef, undef, undef, undef, undef, undef, undef, undef, undef, undef, undef, undef, undef, undef, undef, undef], defers := [] }) ?assign ?body ?done ?stop
  case ownI =>
    obtain ⟨u', h1, h2⟩ := hs
    exact ⟨u', h1, h2.grow hg _ hHle (by intro b hb; simp only [List.mem_cons, List.not_mem_nil, or_false] at hb; rw [hsz10]; omega) hr⟩
  case ownX =>
    obtain ⟨hc, e, u', h1, h0, h2⟩ := hs
    exact ⟨hc, e, u', h1, h0, h2.grow hg _ hHle (by intro b hb; simp only [List.mem_cons, List.not_mem_nil, or_false] at hb; rw [hsz10]; omega) hr⟩
  case turnI =>
    obtain ⟨u', h1, h2⟩ := hs
    exact ⟨u', h1, h2.turns v⟩
  case turnX =>
    obtain ⟨hc, e, u', h1, h0, h2⟩ := hs
    exact ⟨hc, e, u', h1, h0, h2.turns v⟩
  case assign =>
    intro l x W K hK
    gi_wp2
    exact hK
  case body =>
    rintro l pre x W ⟨u', hr, x0, hP0⟩ hlt hok hkk
    have hpl : pre.length ≤ 100000 := by omega
    have hxl : x.length ≤ 100000 := by
      have h1 : x ∈ linesL s := hok.subset (by simp)
      have := lines_le s x h1
      omega
    obtain ⟨oD, d1, d2⟩ := hkk w8.heap.size (by simp)
    obtain ⟨oL, l1, l2⟩ := hkk (w8.heap.size + 1) (by simp)
    rw [hsz10] at d1 l1
    have hP1 := (hP0.add (b := P + 1 + 1 + 1 + 1 + 1) (by omega) d1 d2 (by simp [PB.K]; omega)).add (b := P + 1 + 1 + 1 + 1 + 1 + 1) (by omega) l1 l2 (by simp [PB.K]; omega)
    have hP2 := hP1.sub (K' := [(P + 1, .cells #[.int .i64 (pre.length : Int)] 3), (P + 1 + 1 + 1 + 1 + 1, oD), (P + 1 + 1 + 1 + 1 + 1 + 1, oL), (P + 1 + 1, .cells #[x0] 9), (H, .cells zeroU 25), (H + 1, .cells #[.int .i64 0] 26), (H + 1 + 1, .cells #[.int .i64 0] 3), (P + 1 + 1 + 1, .cells #[.string ⟨#[10]⟩] 9), (P + 1 + 1 + 2, .cells #[.int .i64 0] 3)]) (fun y hy => by
        simp only [List.mem_cons, List.not_mem_nil, or_false] at hy
        rcases hy with rfl | rfl | rfl | rfl | rfl | rfl | rfl | rfl | rfl <;> simp [PB.K]) (by simp; omega)
    have c0 : W.cell? ⟨P + 1, 0, none⟩ = some (.int .i64 (pre.length : Int)) := cell_at (hP2.at (List.mem_cons_self ..)) 0
    have f0 : W.frozen? ⟨P + 1, 0, none⟩ = false := free_at (hP2.at (List.mem_cons_self ..)) 0
    have hw : IntKind.i64.wrap ((pre.length : Int) + 1) = (pre.length : Int) + 1 := IntWalk.i64_in _ (by omega)
    have hP3 := hP2.store 0 (.int .i64 ((pre.length : Int) + 1))
    have hu : UOk u' := by
      have := UOk.zero.run 0 pre
      rw [hr] at this; exact this
    have hln := callsIn_wide (n := 0) |>.2 (line_u hm hP3 hu x (by omega))
    have Hr := Lib.hid hr
    have Hu := Lib.hid hu
    have HD := Lib.hid d1
    have HL := Lib.hid l1
    obtain ⟨W1, hW1⟩ : ∃ W1, W1 = W.setCell ⟨P + 1, 0, none⟩ (.int .i64 ((pre.length : Int) + 1)) := ⟨_, rfl⟩
    rw [← hW1] at hln
    have HW1 := Lib.hid hW1
    have HK2 := Lib.hid hP2
    clear hP0 hP1 hP2 hP3 hr hu d1 l1 hkk hok
    have keeps : ∀ V u2 y y2 y3, PU w ((P + 1, y) :: (P + 1 + 1 + 1 + 1 + 1, oD) :: (P + 1 + 1 + 1 + 1 + 1 + 1, oL) :: [(P + 1 + 1, .cells #[x0] 9), (H, .cells zeroU 25), (H + 1, y2), (H + 1 + 1, y3), (P + 1 + 1 + 1, .cells #[.string ⟨#[10]⟩] 9), (P + 1 + 1 + 2, .cells #[.int .i64 0] 3)]) (H + 1 + 1 + 1) (H + 1 + 1 + 1 + 1) P u2 V → (∀ k ∈ [w8.heap.size, w8.heap.size + 1], V.heap[k]? = W.heap[k]?) ∧ ∀ k ∈ [P + 1 + 1, P + 1 + 1 + 1, P + 1 + 1 + 2], V.heap[k]? = W.heap[k]? := fun V u2 y y2 y3 hv => by
      have two := HK2.out
      refine ⟨fun k hk => ?_, fun k hk => ?_⟩
      · simp only [List.mem_cons, List.not_mem_nil, or_false, hsz10] at hk
        rcases hk with rfl | rfl
        · exact (hv.at (x := oD) (by simp)).trans (two.at (x := oD) (by simp)).symm
        · exact (hv.at (x := oL) (by simp)).trans (two.at (x := oL) (by simp)).symm
      · simp only [List.mem_cons, List.not_mem_nil, or_false] at hk
        rcases hk with rfl | rfl | rfl
        · exact (hv.at (x := .cells #[x0] 9) (by simp)).trans (two.at (x := .cells #[x0] 9) (by simp)).symm
        · exact (hv.at (x := .cells #[.string ⟨#[10]⟩] 9) (by simp)).trans (two.at (x := .cells #[.string ⟨#[10]⟩] 9) (by simp)).symm
        · exact (hv.at (x := .cells #[.int .i64 0] 3) (by simp)).trans (two.at (x := .cells #[.int .i64 0] 3) (by simp)).symm
    have Keeps := Lib.hid keeps
    clear keeps
    by_cases he : (stepU u' x).2 = 0
    · have Hrun := Lib.hid (show runU UD0 0 (pre ++ [x]) = (0, (pre ++ [x]).length, (stepU u' x).1) from by
        rw [run_snoc Hr.out x, if_pos he, List.length_append]; rfl)
      rw [he] at hln
      clear he
      gi_wp2_with (refine ⟨trivial, ?_⟩; gi_at_call 17; rw [← hW1]; refine (CallsIn.inRound l hln).mono ?_; rintro e W2 ⟨rfl, hP4⟩; have HP4 := Lib.hid hP4; clear hP4)
      obtain ⟨q1, q2⟩ := Keeps.out _ _ _ _ _ HP4.out
      refine ⟨q1, q2, _, Hrun.out, x0, HP4.out.sub (fun y hy => ?_) (by simp [PB.K]; omega)⟩
      have hc : (((pre ++ [x]).length : Nat) : Int) = (pre.length : Int) + 1 := by simp
      simp only [PB.K, hc, List.mem_cons, List.not_mem_nil, or_false] at hy
      rcases hy with rfl | rfl | rfl | rfl | rfl | rfl | rfl <;> simp
    · have Hrun := Lib.hid (show runU UD0 0 (pre ++ [x]) = ((stepU u' x).2, (pre ++ [x]).length, u') from by
        rw [run_snoc Hr.out x, if_neg he, List.length_append]; rfl)
      have hsu := step_err he
      rw [hsu] at hln
      have He := Lib.hid he
      clear hsu
      generalize (stepU u' x).2 = ec at *
      gi_wp2_with (refine ⟨trivial, ?_⟩; gi_at_call 17; rw [← hW1]; refine (CallsIn.inRound l hln).mono ?_; rintro e W2 ⟨rfl, hP4⟩; have HP4 := Lib.hid hP4; clear hP4)
      have n0 : W2.cell? ⟨P + 1, 0, none⟩ = some (.int .i64 ((pre.length : Int) + 1)) := cell_at (HP4.out.at (List.mem_cons_self ..)) 0
      have g1 : W2.heap[H]? = some (.cells zeroU 25) := HP4.out.at (by simp)
      have g2 : W2.heap[H + 1]? = some (.cells #[.int .i64 0] 26) := HP4.out.at (by simp)
      have g3 : W2.heap[H + 1 + 1]? = some (.cells #[.int .i64 0] 3) := HP4.out.at (by simp)
      have z0 : W2.cell? ⟨H, 0, none⟩ = some (.string ⟨#[]⟩) := cell_at g1 0
      have z1 : W2.cell? ⟨H, 1, none⟩ = some (.slice none 0 0) := cell_at g1 1
      have z2 : W2.cell? ⟨H, 2, none⟩ = some (.slice none 0 0) := cell_at g1 2
      have z3 : W2.cell? ⟨H, 3, none⟩ = some (.slice none 0 0) := cell_at g1 3
      have z4 : W2.cell? ⟨H, 4, none⟩ = some (.slice none 0 0) := cell_at g1 4
      have z5 : W2.cell? ⟨H, 5, none⟩ = some (.slice none 0 0) := cell_at g1 5
      have z6 : W2.cell? ⟨H, 6, none⟩ = some (.slice none 0 0) := cell_at g1 6
      have z7 : W2.cell? ⟨H, 7, none⟩ = some (.int .i64 0) := cell_at g1 7
      have zf : ∀ j, W2.frozen? ⟨H, j, none⟩ = false := fun j => free_at g1 j
      have y2 : W2.cell? ⟨H + 1, 0, none⟩ = some (.int .i64 0) := cell_at g2 0
      have y3 : W2.cell? ⟨H + 1 + 1, 0, none⟩ = some (.int .i64 0) := cell_at g3 0
      have e2 : W2.frozen? ⟨H + 1, 0, none⟩ = false := free_at g2 0
      have e3 : W2.frozen? ⟨H + 1 + 1, 0, none⟩ = false := free_at g3 0
      have u1 : ¬ P + 1 = H := by omega
      have u2 : ¬ P + 1 = H + 1 := by omega
      have u3 : ¬ P + 1 = H + 1 + 1 := by omega
      have hmx : Tryd.prog.follows .mixedOrders = true := by kernel_rfl
      clear g1 g2 g3
      have rest6 : ∀ {y : Nat × Obj} {a b c d e f g h i : Nat × Obj}, y ∈ [a, b, c, d, e, f, g, h, i] ↔ y = a ∨ y = b ∨ y = c ∨ y = d ∨ y = e ∨ y = f ∨ y = g ∨ y = h ∨ y = i := by intros; simp
      have p1 := HP4.out.sub (K' := [(H, .cells zeroU 25), (H + 1, .cells #[.int .i64 0] 26), (H + 1 + 1, .cells #[.int .i64 0] 3), (P + 1, .cells #[.int .i64 ((pre.length : Int) + 1)] 3), (P + 1 + 1 + 1 + 1 + 1, oD), (P + 1 + 1 + 1 + 1 + 1 + 1, oL), (P + 1 + 1, .cells #[x0] 9), (P + 1 + 1 + 1, .cells #[.string ⟨#[10]⟩] 9), (P + 1 + 1 + 2, .cells #[.int .i64 0] 3)]) (fun y hy => by
        rw [rest6] at hy
        rcases hy with rfl | rfl | rfl | rfl | rfl | rfl | rfl | rfl | rfl <;> simp) (by simp; omega)
      have p2 := (((((((p1.store 0 (.string ⟨#[]⟩)).store 1 (.slice none 0 0)).store 2 (.slice none 0 0)).store 3 (.slice none 0 0)).store 4 (.slice none 0 0)).store 5 (.slice none 0 0)).store 6 (.slice none 0 0)).store 7 (.int .i64 0)
      have p3 := p2.sub (K' := [(H + 1, .cells #[.int .i64 0] 26), (H, .cells zeroU 25), (H + 1 + 1, .cells #[.int .i64 0] 3), (P + 1, .cells #[.int .i64 ((pre.length : Int) + 1)] 3), (P + 1 + 1 + 1 + 1 + 1, oD), (P + 1 + 1 + 1 + 1 + 1 + 1, oL), (P + 1 + 1, .cells #[x0] 9), (P + 1 + 1 + 1, .cells #[.string ⟨#[10]⟩] 9), (P + 1 + 1 + 2, .cells #[.int .i64 0] 3)]) (fun y hy => by
        rw [rest6] at hy
        rcases hy with rfl | rfl | rfl | rfl | rfl | rfl | rfl | rfl | rfl <;> simp [zeroU]) (by simp; omega)
      have p4 := (p3.store 0 (.int .i64 ec)).sub (K' := [(H + 1 + 1, .cells #[.int .i64 0] 3), (H + 1, .cells #[.int .i64 ec] 26), (H, .cells zeroU 25), (P + 1, .cells #[.int .i64 ((pre.length : Int) + 1)] 3), (P + 1 + 1 + 1 + 1 + 1, oD), (P + 1 + 1 + 1 + 1 + 1 + 1, oL), (P + 1 + 1, .cells #[x0] 9), (P + 1 + 1 + 1, .cells #[.string ⟨#[10]⟩] 9), (P + 1 + 1 + 2, .cells #[.int .i64 0] 3)]) (fun y hy => by
        rw [rest6] at hy
        rcases hy with rfl | rfl | rfl | rfl | rfl | rfl | rfl | rfl | rfl <;> simp) (by simp; omega)
      have p5 := ((p4.store 0 (.int .i64 ((pre.length : Int) + 1))).sub (K' := [(P + 1, .cells #[.int .i64 ((pre.length : Int) + 1)] 3), (P + 1 + 1 + 1 + 1 + 1, oD), (P + 1 + 1 + 1 + 1 + 1 + 1, oL), (P + 1 + 1, .cells #[x0] 9), (H, .cells zeroU 25), (H + 1, .cells #[.int .i64 ec] 26), (H + 1 + 1, .cells #[.int .i64 ((pre.length : Int) + 1)] 3), (P + 1 + 1 + 1, .cells #[.string ⟨#[10]⟩] 9), (P + 1 + 1 + 2, .cells #[.int .i64 0] 3)]) (fun y hy => by
        rw [rest6] at hy
        rcases hy with rfl | rfl | rfl | rfl | rfl | rfl | rfl | rfl | rfl <;> simp) (by simp; omega)).drew
      have H5 := Lib.hid p5
      clear p1 p2 p3 p4 p5 rest6
      gi_region_with_o (fail)
      all_goals gi_wp2
      all_goals
        refine ⟨(Keeps.out _ _ _ _ _ H5.out).1, rfl, ec, u', Hrun.out, He.out, x0, H5.out.sub (fun y hy => ?_) (by simp [PB.K]; omega)⟩
        have hc : (((pre ++ [x]).length : Nat) : Int) = (pre.length : Int) + 1 := by simp
        simp only [PB.K, hc, List.mem_cons, List.not_mem_nil, or_false] at hy
        rcases hy with rfl | rfl | rfl | rfl | rfl | rfl | rfl <;> simp
  case done =>
    rintro D xs W hD rfl ⟨u', hr, x0, hP0⟩ hK
    rw [hsz10] at hD
    have hpu : parseU s = endU (0, (linesL s).length, u') := by unfold parseU; rw [hr]
    obtain ⟨n0, _⟩ := hP0.name
    obtain ⟨S, v, L, hc, hO, _⟩ := hP0.list 0 (by decide)
    obtain ⟨a, c, hv⟩ := owned_form hO.head
    have hv' : v = .slice a (listU u' 0).length c := hv
    subst hv'
    have hc' : W.cell? ⟨H + 1 + 1 + 1, 1, none⟩ = some (.slice a (listU u' 0).length c) := hc
    have hD1 := (hP0.add (b := D) (by omega) hK rfl (by simp [PB.K]; omega))
    obtain ⟨⟨z0, z1, z2, z3, z4, z5, z6, z7⟩, zf, y2, y3, e2, e3⟩ := hD1.zeros (H := H) (by simp [PB.K]) (by simp [PB.K]) (by simp [PB.K])
    have hres := hD1.result (H := H) (D := D) (oD := .deferred (some [])) (by simp [PB.K]) (by simp [PB.K]) (by simp [PB.K]) (by simp) (by simp; omega)
    have HD := Lib.hid hD1
    have HR := Lib.hid hres
    have HPU := Lib.hid hpu
    clear hO hv hc hr hres hD1 hP0 hpu
    by_cases hn : u'.name = []
    · have hs0 : (toB u'.name).toList.isEmpty = true := by rw [toList_toB, hn]; rfl
      have HP := Lib.hid (HR.out (.string ⟨#[]⟩) (.slice none 0 0) (.slice none 0 0) (.slice none 0 0) (.slice none 0 0) (.slice none 0 0) (.slice none 0 0) (.int .i64 0) (.int .i64 8) (.int .i64 0))
      have HE := Lib.hid (show parseU s = (8, 0, UD0) by rw [HPU.out]; unfold endU; rw [if_neg (fun h => h rfl), if_pos (.inl hn)])
      clear hn
      generalize toB u'.name = ns at *
      gi_wp2
      obtain ⟨V, hV⟩ : ∃ V, V = ((((((((((W.setCell ⟨H, 0, none⟩ (.string ⟨#[]⟩)).setCell ⟨H, 1, none⟩ (.slice none 0 0)).setCell ⟨H, 2, none⟩ (.slice none 0 0)).setCell ⟨H, 3, none⟩ (.slice none 0 0)).setCell ⟨H, 4, none⟩ (.slice none 0 0)).setCell ⟨H, 5, none⟩ (.slice none 0 0)).setCell ⟨H, 6, none⟩ (.slice none 0 0)).setCell ⟨H, 7, none⟩ (.int .i64 0)).setCell ⟨H + 1, 0, none⟩ (.int .i64 8)).setCell ⟨H + 1 + 1, 0, none⟩ (.int .i64 0)) := ⟨_, rfl⟩
      rw [← hV] at HP ⊢
      obtain ⟨hDV, hq⟩ := HP.out.leave (by omega)
      refine ⟨by simp, .inl ⟨_, _, rfl, run_takeDeferred hDV, ?_⟩⟩
      exact ⟨_, ret_unit rfl rfl rfl (hq.at (by simp)) (hq.at (by simp)) (hq.at (by simp)), post_no HE.out hq.below⟩
    · have hs0 : (toB u'.name).toList.isEmpty = false := by rw [toList_toB]; simpa using hn
      by_cases hl : listU u' 0 = []
      · have HP := Lib.hid (HR.out (.string ⟨#[]⟩) (.slice none 0 0) (.slice none 0 0) (.slice none 0 0) (.slice none 0 0) (.slice none 0 0) (.slice none 0 0) (.int .i64 0) (.int .i64 8) (.int .i64 0))
        have HE := Lib.hid (show parseU s = (8, 0, UD0) by rw [HPU.out]; unfold endU; rw [if_neg (fun h => h rfl), if_pos (.inr hl)])
        rw [hl] at hc'
        have hc2 : W.cell? ⟨H + 1 + 1 + 1, 1, none⟩ = some (.slice a 0 c) := hc'
        clear hn hl hc'
        generalize toB u'.name = ns at *
        gi_wp2
        obtain ⟨V, hV⟩ : ∃ V, V = ((((((((((W.setCell ⟨H, 0, none⟩ (.string ⟨#[]⟩)).setCell ⟨H, 1, none⟩ (.slice none 0 0)).setCell ⟨H, 2, none⟩ (.slice none 0 0)).setCell ⟨H, 3, none⟩ (.slice none 0 0)).setCell ⟨H, 4, none⟩ (.slice none 0 0)).setCell ⟨H, 5, none⟩ (.slice none 0 0)).setCell ⟨H, 6, none⟩ (.slice none 0 0)).setCell ⟨H, 7, none⟩ (.int .i64 0)).setCell ⟨H + 1, 0, none⟩ (.int .i64 8)).setCell ⟨H + 1 + 1, 0, none⟩ (.int .i64 0)) := ⟨_, rfl⟩
        rw [← hV] at HP ⊢
        obtain ⟨hDV, hq⟩ := HP.out.leave (by omega)
        refine ⟨by simp, .inl ⟨_, _, rfl, run_takeDeferred hDV, ?_⟩⟩
        exact ⟨_, ret_unit rfl rfl rfl (hq.at (by simp)) (hq.at (by simp)) (hq.at (by simp)), post_no HE.out hq.below⟩
      · obtain ⟨vs, hvs, hub, hrow⟩ := HD.out.fin
        obtain ⟨v0, v1, v2, v3, v4, v5, rfl⟩ : ∃ a b c d e f, vs = [a, b, c, d, e, f] := by
          match vs, hvs with
          | [a, b, c, d, e, f], _ => exact ⟨a, b, c, d, e, f, rfl⟩
        have HE := Lib.hid (show parseU s = (0, 0, u') by rw [HPU.out]; unfold endU; rw [if_neg (fun h => h rfl), if_neg (by rintro (h | h); exact hn h; exact hl h)])
        have HP := Lib.hid (HR.out (.string (toB u'.name)) v0 v1 v2 v3 v4 v5 (.int .i64 (retU u')) (.int .i64 0) (.int .i64 0))
        have q1 : W.cell? ⟨H + 1 + 1 + 1, 1, none⟩ = some v0 := cell_at hub 1
        have q2 : W.cell? ⟨H + 1 + 1 + 1, 2, none⟩ = some v1 := cell_at hub 2
        have q3 : W.cell? ⟨H + 1 + 1 + 1, 3, none⟩ = some v2 := cell_at hub 3
        have q4 : W.cell? ⟨H + 1 + 1 + 1, 4, none⟩ = some v3 := cell_at hub 4
        have q5 : W.cell? ⟨H + 1 + 1 + 1, 5, none⟩ = some v4 := cell_at hub 5
        have q6 : W.cell? ⟨H + 1 + 1 + 1, 6, none⟩ = some v5 := cell_at hub 6
        have q7 : W.cell? ⟨H + 1 + 1 + 1, 7, none⟩ = some (.int .i64 (retU u')) := cell_at hub 7
        obtain rfl : v0 = .slice a (listU u' 0).length c := Option.some.inj (q1.symm.trans hc')
        have sl : ∀ j, j < 6 → ∃ a c, W.cell? ⟨H + 1 + 1 + 1, 1 + j, none⟩ = some (.slice a (listU u' j).length c) := fun j hj => by
          obtain ⟨S, v, L, hc1, hO1, _⟩ := HD.out.list j hj
          obtain ⟨a, c, hv⟩ := owned_form hO1.head
          have hv' : v = .slice a (listU u' j).length c := hv
          exact ⟨a, c, by rw [hc1, hv']⟩
        obtain ⟨a1, c1, s1⟩ := sl 1 (by decide)
        obtain ⟨a2, c2, s2⟩ := sl 2 (by decide)
        obtain ⟨a3, c3, s3⟩ := sl 3 (by decide)
        obtain ⟨a4, c4, s4⟩ := sl 4 (by decide)
        obtain ⟨a5, c5, s5⟩ := sl 5 (by decide)
        obtain rfl : v1 = _ := Option.some.inj (q2.symm.trans s1)
        obtain rfl : v2 = _ := Option.some.inj (q3.symm.trans s2)
        obtain rfl : v3 = _ := Option.some.inj (q4.symm.trans s3)
        obtain rfl : v4 = _ := Option.some.inj (q5.symm.trans s4)
        obtain rfl : v5 = _ := Option.some.inj (q6.symm.trans s5)
        have hl3 : ¬ (((listU u' 0).length : Nat) : Int) = 0 := by
          have := List.length_pos_iff.2 hl
          omega
        have HROW := Lib.hid (fun V (h : PU w _ (H + 1 + 1 + 1) (H + 1 + 1 + 1 + 1) P u' V) (e : V.heap[H + 1 + 1 + 1]? = W.heap[H + 1 + 1 + 1]?) => hrow (w' := V) (K' := [(H, .cells #[.string (toB u'.name), .slice a (listU u' 0).length c, .slice a1 (listU u' 1).length c1, .slice a2 (listU u' 2).length c2, .slice a3 (listU u' 3).length c3, .slice a4 (listU u' 4).length c4, .slice a5 (listU u' 5).length c5, .int .i64 (retU u')] 25), (H + 1, .cells #[.int .i64 0] 26), (H + 1 + 1, .cells #[.int .i64 0] 3)]) h e)
        clear hn hl hc' hub hrow hvs sl s1 s2 s3 s4 s5
        generalize (listU u' 0).length = m0 at *
        generalize (listU u' 1).length = m1 at *
        generalize (listU u' 2).length = m2 at *
        generalize (listU u' 3).length = m3 at *
        generalize (listU u' 4).length = m4 at *
        generalize (listU u' 5).length = m5 at *
        obtain ⟨ns, hns⟩ : ∃ ns, toB u'.name = ns := ⟨_, rfl⟩
        have HNS := Lib.hid hns
        rw [hns] at HP hs0 n0 HROW
        clear hns
        gi_wp2
        have hkeep := result_keep W H (H + 1 + 1 + 1) (by omega) (by omega) (by omega) (.string ns) (.slice a m0 c) (.slice a1 m1 c1) (.slice a2 m2 c2) (.slice a3 m3 c3) (.slice a4 m4 c4) (.slice a5 m5 c5) (.int .i64 (retU u')) (.int .i64 0) (.int .i64 0)
        obtain ⟨V, hV⟩ : ∃ V, V = ((((((((((W.setCell ⟨H, 0, none⟩ (.string ns)).setCell ⟨H, 1, none⟩ (.slice a m0 c)).setCell ⟨H, 2, none⟩ (.slice a1 m1 c1)).setCell ⟨H, 3, none⟩ (.slice a2 m2 c2)).setCell ⟨H, 4, none⟩ (.slice a3 m3 c3)).setCell ⟨H, 5, none⟩ (.slice a4 m4 c4)).setCell ⟨H, 6, none⟩ (.slice a5 m5 c5)).setCell ⟨H, 7, none⟩ (.int .i64 (retU u'))).setCell ⟨H + 1, 0, none⟩ (.int .i64 0)).setCell ⟨H + 1 + 1, 0, none⟩ (.int .i64 0)) := ⟨_, rfl⟩
        rw [← hV] at HP hkeep ⊢
        obtain ⟨hDV, hq⟩ := HP.out.leave (by omega)
        refine ⟨by simp, .inl ⟨_, _, rfl, run_takeDeferred hDV, ?_⟩⟩
        refine ⟨_, ret_unit rfl rfl rfl (hq.at (List.mem_cons_self ..)) (hq.at (List.mem_cons_of_mem _ (List.mem_cons_self ..))) (hq.at (List.mem_cons_of_mem _ (List.mem_cons_of_mem _ (List.mem_cons_self ..)))), [.slice a m0 c, .slice a1 m1 c1, .slice a2 m2 c2, .slice a3 m3 c3, .slice a4 m4 c4, .slice a5 m5 c5], rfl, by rw [HE.out, ← HNS.out]; rfl, ?_⟩
        rw [HE.out]
        exact HROW.out _ hq ((World.putObj_heap_other (by omega)).trans hkeep)
  case stop =>
    rintro D c pre W hD hpre ⟨rfl, e, u', hr, he, x0, hP0⟩ hK
    rw [hsz10] at hD
    obtain ⟨rest, hrest⟩ := hpre
    have hpu : parseU s = (e, pre.length, UD0) := by
      unfold parseU
      rw [← hrest, run_stop hr he rest]
      unfold endU
      rw [if_pos he]
    have hD1 := (hP0.add (b := D) (by omega) hK rfl (by simp [PB.K]; omega)).sub (K' := [(H, .cells zeroU 25), (H + 1, .cells #[.int .i64 e] 26), (H + 1 + 1, .cells #[.int .i64 (pre.length : Int)] 3), (D, .deferred (some []))]) (fun y hy => by
      simp only [List.mem_cons, List.not_mem_nil, or_false] at hy
      rcases hy with rfl | rfl | rfl | rfl <;> simp [PB.K]) (by simp; omega)
    obtain ⟨hDV, hq⟩ := hD1.leave (by omega)
    gi_wp2
    refine ⟨by simp, .inl ⟨_, _, rfl, run_takeDeferred hDV, ?_⟩⟩
    exact ⟨_, ret_unit rfl rfl rfl (hq.at (by simp [zeroU])) (hq.at (by simp)) (hq.at (by simp)), post_no hpu hq.below⟩
end Go.Proofs.YtmnohaefklglfaaDoor
