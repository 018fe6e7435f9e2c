/- 'DiskPlays': for whatever acts the law returns true, and writes nothing that was there. -/
import Derived.Test.YthmcdmnjjofehaaDPlays0
import Derived.Test.YthmcdmnjjofehaaDPower
import Derived.Deep.DeepCutAuto
import Derived.Deep.CutBlock
import Derived.Deep.QuietTactic
import Derived.BigQuiet
namespace Go.Proofs.Ythmcdmnjjofehaa
open Go.RowKit
set_option linter.unusedVariables false
set_option linter.unusedSimpArgs false

def rowO (g : Nat) (k x y p : Int) : Rw := ⟨33, 4, .slice (some ⟨g, 0, none⟩) 1 1, 1, opCells k x y p⟩
/-- Behind an act: both answered the same. -/
def Done1 (W0 : World) (d G i : Nat) (X : List Rw) (s9 s10 : Value) (wc : World) : Prop :=
  ∃ (v : Int) (D : Dk), s9 = .int .i64 v ∧ s10 = .int .i64 v ∧ Both W0 d G (i + 1) X D wc
def PlAt (W0 : World) (d G len : Nat) (t : Value) (wr : World) : Prop := ∃ (i : Nat) (D : Dk), t = .int .i64 i ∧ i ≤ len ∧ Both W0 d G i [] D wr
theorem row_one {w : World} {b e size n : Nat} {v : Value} {xs : List Value} (h : (v = .slice none 0 0 ∧ n = 0) ∨ ∃ g cap cur, v = .slice (some ⟨g, 0, none⟩) n cap ∧ b ≤ g ∧ w.heap[g]? = some (.cells cur e (0, 0)) ∧ n ≤ cap ∧ cap ≤ maxLen ∧ cur.size = cap * size ∧ cur.toList.take (n * size) = xs) : v.oneCell' = true := by
  rcases h with ⟨rfl, _⟩ | ⟨g, cap, cur, rfl, _⟩ <;> rfl
theorem refCells_one {a b : Value} (ha : a.oneCell' = true) (hb : b.oneCell' = true) (R : Rf) : ∀ v ∈ refCells a b R, v.oneCell' = true := by
  intro v hv
  simp only [refCells, List.mem_cons, List.not_mem_nil, or_false] at hv
  rcases hv with rfl | rfl | rfl | rfl | rfl | rfl <;> first | assumption | rfl
theorem box_last (p q r : Rw) (M : List Rw) : (r :: p :: q :: M).Perm ([p, q, r] ++ M) :=
  ((List.Perm.swap p r (q :: M)).trans ((List.Perm.swap q r M).cons p))
theorem op_last (p q r s : Rw) : (s :: [p, q, r]).Perm [p, q, r, s] := (List.perm_append_comm (l₁ := [s]) (l₂ := [p, q, r]))
theorem DkAt.setBox {W0 w : World} {d G : Nat} {D : Dk} {p q : Rw} {xs : List Value} {L : List Rw} (h : DkAt W0 w d D (p :: q :: rBox G xs :: L)) (ys : List Value) (hx : xs.length = ys.length) : DkAt W0 (w.setCells G 0 ys) d D (p :: q :: rBox G ys :: L) := by
  obtain ⟨hD, kb, lb, n, sv, hn, hO⟩ := h
  have hp : ∀ zs, (rowsOf d kb lb sv n D (p :: q :: rBox G zs :: L)).Perm (rBox G zs :: (rowD d kb lb sv n D :: rowK kb n D.kept :: rowK lb n D.last :: rowS sv D.since :: p :: q :: L)) := fun zs =>
    (List.perm_append_comm (l₁ := [rowD d kb lb sv n D, rowK kb n D.kept, rowK lb n D.last, rowS sv D.since, p, q]) (l₂ := [rBox G zs])).append_right L
  exact ⟨hD, kb, lb, n, sv, hn, ((hO.perm (hp xs)).boxSet ys hx).perm (hp ys).symm⟩
theorem DkAt.setBox1 {W0 w : World} {d G : Nat} {D : Dk} {p q : Rw} {xs : List Value} {L : List Rw} (h : DkAt W0 w d D (p :: q :: rBox G xs :: L)) (j : Nat) (u : Value) : DkAt W0 (w.setCell ⟨G, j, none⟩ u) d D (p :: q :: rBox G (xs.set j u) :: L) := by
  obtain ⟨hD, kb, lb, n, sv, hn, hO⟩ := h
  have hp : ∀ zs, (rowsOf d kb lb sv n D (p :: q :: rBox G zs :: L)).Perm (rBox G zs :: (rowD d kb lb sv n D :: rowK kb n D.kept :: rowK lb n D.last :: rowS sv D.since :: p :: q :: L)) := fun zs =>
    (List.perm_append_comm (l₁ := [rowD d kb lb sv n D, rowK kb n D.kept, rowK lb n D.last, rowS sv D.since, p, q]) (l₂ := [rBox G zs])).append_right L
  exact ⟨hD, kb, lb, n, sv, hn, (Own.set (h := hO.perm (hp xs)) j u).perm (hp (xs.set j u)).symm⟩
/-- What the law's variables hold. -/
theorem plays_cells {W0 w : World} {d G Go : Nat} {D : Dk} {p q : Rw} {a b : Value} {R : Rf} {k x y pp : Int} (h : DkAt W0 w d D (p :: q :: rBox G (refCells a b R) :: [rowO Go k x y pp])) :
    w.rangeAt G 0 (refCells a b R) ∧ w.there G 0 6 ∧ w.cell? ⟨Go, 0, none⟩ = some (.int .i64 k) ∧ w.cell? ⟨Go, 1, none⟩ = some (.int .i64 x) ∧ w.cell? ⟨Go, 2, none⟩ = some (.int .u8 y) ∧ w.cell? ⟨Go, 3, none⟩ = some (.int .u64 pp) ∧
    w.frozen? ⟨G, 2, none⟩ = false ∧ w.frozen? ⟨G, 3, none⟩ = false ∧ w.frozen? ⟨G, 4, none⟩ = false := by
  have h1 := h.one (r := rBox G (refCells a b R)) (by simp)
  have h2 := h.one (r := rowO Go k x y pp) (by simp)
  exact ⟨h1.boxRange rfl, Own.there (h := h1) 0 6 (by decide), Own.cell (h := h2) 0 (by decide), Own.cell (h := h2) 1 (by decide), Own.cell (h := h2) 2 (by decide), Own.cell (h := h2) 3 (by decide), Own.free (h := h1) 2, Own.free (h := h1) 3, Own.free (h := h1) 4⟩
theorem info_r6 (a b : Value) (R : Rf) : (Try.prog.info? 30).map (·.size) = some (refCells a b R).length := info_r
theorem info_r6' (a b : Value) (R : Rf) : (Try.prog.info? 30).map (·.size) = some (refCells a b R).toArray.size := info_r
/-- The document's disk is stored into its variable. -/
theorem wpList_store_box {ops : Array Oper} {rest : List Oper} {op : Oper} {ac : Act} {w : World} {Q : Exit → Act → World → Prop} (hgd : op.guard = none) (x y : Operand) (ho : op.op = .store 30 x y)
    {W0 : World} {d G : Nat} {D : Dk} {p q : Rw} {xs : List Value} {L : List Rw} (h : DkAt W0 w d D (p :: q :: rBox G xs :: L)) (a b : Value) (R : Rf) (hl : xs.length = 6) (hx : ac.eval x = .pointer (some ⟨G, 0, none⟩)) (hy : ac.eval y = .agg (refCells a b R).toArray)
    (h1 : ∀ v ∈ refCells a b R, v.oneCell' = true)
    (hK : ∀ w', DkAt W0 w' d D (p :: q :: rBox G (refCells a b R) :: L) → wpList Try.prog ops Q rest (ac.put op.dst undef) w') : wpList Try.prog ops Q (op :: rest) ac w := by
  have hth : w.there G 0 6 := Own.there (h := h.one (r := rBox G xs) (by simp)) 0 6 (by decide)
  exact wpList_store_mid hgd 30 x y ho G 0 (refCells a b R).toArray hx hy hth (info_r6' a b R) (all_oneCell_toArray h1) (hK _ (h.setBox (refCells a b R) (by rw [hl]; rfl)))
attribute [local go_sem ↓] wp_load_sec wp_load_64 Go.wp_at_zero Go.wp_at_succ

set_option maxHeartbeats 6400000 in
set_option maxRecDepth 100000 in
theorem plays_any (n : Int) (a : Option Addr) (len cap : Nat) (w : World) (hops : IsOps w a len) (hlen : len ≤ maxLen) :
    Calls Try.prog 3 #[.int .i64 n, .slice a len cap] w fun e w' => e = .returned (.bool true) ∧ Below w.heap.size w w' := by
  have hlen2 : len < 9223372036854775808 := Nat.lt_of_le_of_lt hlen (by unfold maxLen; decide)
  clear hlen
  have Hops := Lib.hid hops
  clear hops
  obtain ⟨m, hm, hmb⟩ := and_mask n 31 (by decide)
  have hm : bits BinOp.and IntKind.i64 n 31 = (m : Int) := hm
  by_cases hbig : 200 < len
  · have t1 : decide ((200 : Int) < (len : Int)) = true := by simp; omega
    go_enter Try.func3, Try.ntmps3
    go_wp2_with (go_at_call 7; refine (alive_any _).mono ?_; rintro e w1 ⟨rfl, hb1⟩)
    go_ret
    exact ⟨rfl, hb1⟩
  · have t1 : decide ((200 : Int) < (len : Int)) = false := by simp; omega
    have hl2 : len ≤ 200 := by omega
    go_enter Try.func3, Try.ntmps3
    go_wp2_with (go_at_call 7; refine (alive_any _).mono ?_; rintro e w1 ⟨rfl, hb1⟩)
    refine (new_any w w1 [] m (Own.of_below hb1) (by omega)).mono ?_
    rintro e w2 ⟨d, rfl, hA⟩
    have HA := Lib.hid hA
    clear hA hb1
    go_wp2_with fail
    obtain ⟨M, hM, hback⟩ : ∃ M, Own w w2 M ∧ ∀ w' L', Own w w' (L' ++ M) → DkAt w w' d (newM (max 1 m)) L' := by
      obtain ⟨hD, kb, lb, n', sv, hn, hO⟩ := HA.out
      exact ⟨_, hO, fun w' L' h' => ⟨hD, kb, lb, n', sv, hn, h'.perm (by rw [← List.append_nil L']; exact List.perm_append_comm (l₂ := [rowD d kb lb sv n' _, _, _, _]))⟩⟩
    refine (ref_new w w2 M m (by omega) hM).mono ?_
    rintro e w3 ⟨a0, rfl, hO3⟩
    have hz := zero_ref
    have hone := Lib.hid (refCells_one (a := a0) (b := .slice none 0 0) (row_one hO3.head.2) rfl (rfNew (max 1 m)))
    have hir : (Try.prog.info? 30).map (·.size) = some (refCells a0 (.slice none 0 0) (rfNew (max 1 m))).length := info_r
    have HO3 := Lib.hid hO3
    have HB := Lib.hid hback
    have Hok := Lib.hid (rfNew_ok (max 1 m) (by omega) (by omega))
    have HR := Lib.hid (Rel.new (max 1 m))
    have Hby := Lib.hid (newM_by (max 1 m))
    have Hbd := Lib.hid (Bd.new (max 1 m))
    generalize rfNew (max 1 m) = R0 at *
    generalize newM (max 1 m) = D0 at *
    clear hM HA hO3 hback
    go_wp2_with (refine wpList_store_new rfl 30 (.tmp 6) (.tmp 26) rfl HO3.out (refCells a0 (.slice none 0 0) R0) w3.heap.size rfl rfl rfl rfl hir hone.out ?_)
    intro w4 hO4 _
    have Hst := Lib.hid (show PlAt w d w3.heap.size len (.int .i64 0) w4 from ⟨0, D0, rfl, Nat.zero_le _, a0, .slice none 0 0, R0, HB.out w4 [rA a0 R0.kept, rB (.slice none 0 0) R0.cache, rBox w3.heap.size (refCells a0 (.slice none 0 0) R0)] (hO4.perm (box_last _ _ _ _)), HR.out, Hok.out, Hbd.out, Hby.out⟩)
    clear hO4 HO3 HB Hok HR Hby Hbd hir
    generalize w3.heap.size = G at *
    go_wp2_with fail
    go_loopw [29] (fun t wr => PlAt w d G len t wr) (fun t _ => 201 - (intOf t).toNat)
    case atStart => exact Hst.out
    case round =>
      obtain ⟨i, D, rfl, hi, a1, b1, R, hA, hRel, hR, hBd, hBy⟩ := hrel
      by_cases hlt : i < len
      · obtain ⟨b, off, k, x, y, p, rfl, hr, wx, wy, wp, wk⟩ := (Hops.out.below hA.below) i hlt
        have hiw := info_op k x y p
        have hz := zero_op
        have Hone := Lib.hid (op_one k x y p)
        have HA := Lib.hid hA
        have HBoth := Lib.hid (show Rel D R ∧ R.Ok ∧ Bd R i i ∧ D.By from ⟨hRel, hR, hBd, hBy⟩)
        clear hA hRel hR hBd hBy Hst
        go_wp2_with (first
          | (refine wpList_load_mid rfl 33 (.tmp 31) rfl b (off + i * 4) rfl (opCells k x y p) _ hr Try.underlying33 rfl hiw ?_)
          | (refine wpList_store_dk rfl 33 (.tmp 8) (.tmp 32) rfl HA.out (opCells k x y p) wr.heap.size rfl rfl rfl rfl hiw Hone.out ?_))
        intro w5 hA5
        have hGG := ((HA.out.one (r := rBox G (refCells a1 b1 R)) (by simp)).lt (List.mem_cons_self ..) (k := G) rfl).2
        generalize wr.heap.size = Go at *
        have hA5 : DkAt w w5 d D (rA a1 R.kept :: rB b1 R.cache :: rBox G (refCells a1 b1 R) :: [rowO Go k x y p]) := hA5.perm (op_last _ _ _ _)
        have HA5 := Lib.hid hA5
        clear hA5 HA
        obtain ⟨hbr, hth, o0, o1, o2, o3, _⟩ := plays_cells HA5.out
        clear hr wk hiw Hone Hops
        go_upto_block 2 with (fail)
        go_cut [9, 10] (fun s9 s10 wc => Done1 w d G i [rowO Go k x y p] s9 s10 wc)
        case first =>
          by_cases k0 : k = 0
          · have t0 : (k == 0) = true := by simpa using k0
            have hb7 := built7r y
            have hb7' := built7 y
            clear k0
            go_wp2_with (first
              | (refine wpList_load_mid rfl 30 (.tmp 6) rfl G 0 rfl (refCells a1 b1 R) _ hbr Try.underlying30 rfl (info_r6 a1 b1 R) ?_)
              | (refine wpList_build rfl 37 _ rfl [(0, .int .u8 y), (1, .int .u8 7)] rfl _ hb7 ?_))
            obtain ⟨hRel, hR, hBd, hBy⟩ := HBoth.out
            obtain ⟨Mx, hF, hbk⟩ := HA5.out.front
            refine (ref_put_any w w5 a1 b1 R Mx x (sec7 y) (sec7_sec y) hF hR i hBd (by omega)).mono ?_
            rintro e w6 ⟨a2, b2, rfl, hO6⟩
            have hA6 := hbk w6 _ _ hO6
            have hone6 := refCells_one (row_one hO6.head.2) (row_one hO6.swap.head.2) (rfPut R x (sec7 y)).1
            have hW := hRel.write x (sec7 y)
            have HN := Lib.hid (show (rfPut R x (sec7 y)).1.Ok ∧ Bd (rfPut R x (sec7 y)).1 (i + 1) (i + 1) ∧ (writeM D x (sec7 y)).1.By ∧ D.steps < 9223372036854775807 ∧ D.since.length < 1000000 from
              ⟨rfPut_ok R hR x _ (sec7_sec y) (by have := hBd.c1; omega), hBd.put x _, writeM_by D hBy x _ (sec7_by y wy), by rw [hRel.steps]; have := hBd.s1; omega, by rw [hRel.since]; have := hBd.c1; omega⟩)
            clear hRel hR hBd hBy hF hbk hO6 HBoth hbr hth o0 o1 o2 o3
            generalize rfPut R x (sec7 y) = q at *
            obtain ⟨R2, f⟩ := q
            have HW := Lib.hid hW
            have HA6 := Lib.hid hA6
            have Hone6 := Lib.hid hone6
            clear hA6 hW hone6
            dsimp only
            go_wp2_with (refine wpList_store_box rfl (.tmp 6) (.tmp 45) rfl HA6.out a2 b2 R2 rfl rfl rfl Hone6.out ?_)
            intro w7 hA7
            obtain ⟨_, _, o0, o1, o2, o3, _⟩ := plays_cells hA7
            have HA7 := Lib.hid hA7
            clear hA7 HA6
            go_wp2_with (refine wpList_build rfl 39 _ rfl [(0, .int .u8 y), (1, .int .u8 7)] rfl _ hb7' ?_)
            refine (write_any w w7 d D _ x (sec7 y) HA7.out (sec7_sec y) HN.out.2.2.2.1 HN.out.2.2.2.2).mono ?_
            rintro e w8 ⟨rfl, hA8⟩
            rw [show (writeM D x (sec7 y)).2 = f from HW.out.2]
            have HD := Lib.hid (show Done1 w d G i [rowO Go k x y p] (.int .i64 f) (.int .i64 f) w8 from ⟨f, _, rfl, rfl, a2, b2, R2, hA8, HW.out.1, HN.out.1, HN.out.2.1, HN.out.2.2.1⟩)
            clear hA8 HA7
            go_wp2_with fail
            go_meet
            exact HD.out
          have e0 : (k == 0) = false := by simpa using k0
          clear k0
          by_cases k1 : k = 1
          · have t1' : (k == 1) = true := by simpa using k1
            clear k1
            go_wp2_with (refine wpList_load_mid rfl 30 (.tmp 6) rfl G 0 rfl (refCells a1 b1 R) _ hbr Try.underlying30 rfl (info_r6 a1 b1 R) ?_)
            obtain ⟨hRel, hR, hBd, hBy⟩ := HBoth.out
            obtain ⟨Mx, hF, hbk⟩ := HA5.out.front
            refine (ref_flush w w5 a1 b1 R Mx hF hR hBd.k0 hBd.k1 hBd.s0 (by have := hBd.s1; omega) hBd.f0 hBd.f1).mono ?_
            rintro e w6 ⟨a2, b2, rfl, hO6⟩
            have hA6 := hbk w6 _ _ hO6
            have hone6 := refCells_one (row_one hO6.head.2) (row_one hO6.swap.head.2) (rfFlush R).1
            have hW := hRel.flush
            have HN := Lib.hid (show (rfFlush R).1.Ok ∧ Bd (rfFlush R).1 (i + 1) (i + 1) ∧ (flushM D).1.By ∧ D.steps < 9223372036854775807 from
              ⟨rfFlush_ok R hR, hBd.flush, flushM_by D hBy, by rw [hRel.steps]; have := hBd.s1; omega⟩)
            clear hRel hR hBd hBy hF hbk hO6 HBoth hbr hth o0 o1 o2 o3
            generalize rfFlush R = q at *
            obtain ⟨R2, f⟩ := q
            have HW := Lib.hid hW
            have HA6 := Lib.hid hA6
            have Hone6 := Lib.hid hone6
            clear hA6 hW hone6
            dsimp only
            go_wp2_with (refine wpList_store_box rfl (.tmp 6) (.tmp 59) rfl HA6.out a2 b2 R2 rfl rfl rfl Hone6.out ?_)
            intro w7 hA7
            have HA7 := Lib.hid hA7
            clear hA7 HA6
            go_wp2_with fail
            refine (flush_any w w7 d D _ HA7.out HN.out.2.2.2).mono ?_
            rintro e w8 ⟨rfl, hA8⟩
            rw [show (flushM D).2 = f from HW.out.2]
            have HD := Lib.hid (show Done1 w d G i [rowO Go k x y p] (.int .i64 f) (.int .i64 f) w8 from ⟨f, _, rfl, rfl, a2, b2, R2, hA8, HW.out.1, HN.out.1, HN.out.2.1, HN.out.2.2.1⟩)
            clear hA8 HA7
            go_wp2_with fail
            go_meet
            exact HD.out
          have e1 : (k == 1) = false := by simpa using k1
          clear k1
          have hp := wf_u64 wp
          by_cases k2 : k = 2
          · have t2' : (k == 2) = true := by simpa using k2
            clear k2
            go_wp2_with (refine wpList_load_mid rfl 30 (.tmp 6) rfl G 0 rfl (refCells a1 b1 R) _ hbr Try.underlying30 rfl (info_r6 a1 b1 R) ?_)
            obtain ⟨hRel, hR, hBd, hBy⟩ := HBoth.out
            obtain ⟨Mx, hF, hbk⟩ := HA5.out.front
            refine (ref_crash w w5 a1 b1 R Mx p hF hR hp.1 hp.2).mono ?_
            rintro e w6 ⟨a2, rfl, hO6⟩
            have hO6' : Own w w6 (rA a2 (rfCrash R p).kept :: rB (.slice none 0 0) (rfCrash R p).cache :: Mx) := ((hO6.third.tail.swap.tail).nil 62 65).swap
            have hA6 := hbk w6 _ _ hO6'
            have hone6 := refCells_one (a := a2) (b := .slice none 0 0) (row_one hO6.head.2) rfl (rfCrash R p)
            have hW := hRel.crash p
            have HN := Lib.hid (show (rfCrash R p).Ok ∧ Bd (rfCrash R p) (i + 1) (i + 1) ∧ (crashM D p).By from
              ⟨rfCrash_ok R hR p, (hBd.crash p).mono (by omega) (by omega), crashM_by D hBy p⟩)
            clear hRel hR hBd hBy hF hbk hO6 hO6' HBoth hbr hth o0 o1 o2 o3
            generalize rfCrash R p = R2 at *
            have HW := Lib.hid hW
            have HA6 := Lib.hid hA6
            have Hone6 := Lib.hid hone6
            clear hA6 hW hone6
            go_wp2_with (refine wpList_store_box rfl (.tmp 6) (.tmp 68) rfl HA6.out a2 (.slice none 0 0) R2 rfl rfl rfl Hone6.out ?_)
            intro w7 hA7
            obtain ⟨_, _, o0, o1, o2, o3, _⟩ := plays_cells hA7
            have HA7 := Lib.hid hA7
            clear hA7 HA6
            go_wp2_with fail
            refine (crash_any w w7 d D _ p HA7.out hp.1 hp.2).mono ?_
            rintro e w8 ⟨rfl, hA8⟩
            have HD := Lib.hid (show Done1 w d G i [rowO Go k x y p] (.int .i64 0) (.int .i64 0) w8 from ⟨0, _, rfl, rfl, a2, _, R2, hA8, HW.out, HN.out.1, HN.out.2.1, HN.out.2.2⟩)
            clear hA8 HA7
            go_wp2_with fail
            go_meet
            exact HD.out
          have e2 : (k == 2) = false := by simpa using k2
          clear k2
          by_cases k3 : k = 3
          · have t3' : (k == 3) = true := by simpa using k3
            clear k3
            have g2 : w5.cell? ⟨G, 2, none⟩ = some (.bool R.down) := hbr 2 _ rfl
            obtain ⟨fz2, _, _⟩ := ‹w5.frozen? ⟨G, 2, none⟩ = false ∧ _›
            have HA6 := Lib.hid (show DkAt w (w5.setCell ⟨G, 2, none⟩ (.bool false)) d D (rA a1 R.kept :: rB b1 R.cache :: rBox G (refCells a1 b1 { R with down := false }) :: [rowO Go k x y p]) from HA5.out.setBox1 2 (.bool false))
            clear hbr hth o0 o1 o2 o3
            go_wp2_with fail
            generalize w5.setCell ⟨G, 2, none⟩ (.bool false) = w6 at *
            refine (on_any w w6 d D _ HA6.out).mono ?_
            rintro e w8 ⟨rfl, hA8⟩
            obtain ⟨hRel, hR, hBd, hBy⟩ := HBoth.out
            have HD := Lib.hid (show Done1 w d G i [rowO Go k x y p] (.int .i64 0) (.int .i64 0) w8 from ⟨0, _, rfl, rfl, a1, b1, { R with down := false }, hA8, hRel.on, ⟨hR.pos, hR.le, hR.kept, hR.cache, hR.many⟩, Bd.mono ⟨hBd.k0, hBd.k1, hBd.s0, hBd.s1, hBd.f0, hBd.f1, hBd.c1⟩ (by omega) (by omega), ⟨hBy.kept, hBy.last, hBy.since⟩⟩)
            clear hA8 HA6 hRel hR hBd hBy HBoth
            go_wp2_with fail
            go_meet
            exact HD.out
          have e3 : (k == 3) = false := by simpa using k3
          clear k3
          by_cases k4 : k = 4
          · have t4' : (k == 4) = true := by simpa using k4
            clear k4
            have hx := wf_i64 wx
            have g3 : w5.cell? ⟨G, 3, none⟩ = some (.int .i64 R.fate) := hbr 3 _ rfl
            have g4 : w5.cell? ⟨G, 4, none⟩ = some (.int .u64 R.keeps) := hbr 4 _ rfl
            obtain ⟨_, fz3, fz4⟩ := ‹w5.frozen? ⟨G, 2, none⟩ = false ∧ _›
            clear hbr hth o0 o2
            have hne : ¬ G = Go := by omega
            have hne2 : ¬ Go = G := by omega
            have HP := Lib.hid (show DkAt w ((w5.setCell ⟨G, 3, none⟩ (.int .i64 x)).setCell ⟨G, 4, none⟩ (.int .u64 p)) d D (rA a1 R.kept :: rB b1 R.cache :: rBox G (refCells a1 b1 { R with fate := x, keeps := p }) :: [rowO Go k x y p]) from (HA5.out.setBox1 3 (.int .i64 x)).setBox1 4 (.int .u64 p))
            have HQ := Lib.hid (show DkAt w ((w5.setCell ⟨G, 4, none⟩ (.int .u64 p)).setCell ⟨G, 3, none⟩ (.int .i64 x)) d D (rA a1 R.kept :: rB b1 R.cache :: rBox G (refCells a1 b1 { R with fate := x, keeps := p }) :: [rowO Go k x y p]) from (HA5.out.setBox1 4 (.int .u64 p)).setBox1 3 (.int .i64 x))
            obtain ⟨hRel, hR, hBd, hBy⟩ := HBoth.out
            have HN := Lib.hid (show Rel (planM D x p) { R with fate := x, keeps := p } ∧ ({ R with fate := x, keeps := p } : Rf).Ok ∧ Bd { R with fate := x, keeps := p } (i + 1) (i + 1) ∧ (planM D x p).By from
              ⟨hRel.plan x p, ⟨hR.pos, hR.le, hR.kept, hR.cache, hR.many⟩, Bd.mono (i := i) (j := i) ⟨hp.1, hp.2, hBd.s0, hBd.s1, hx.1, hx.2, hBd.c1⟩ (by omega) (by omega), ⟨hBy.kept, hBy.last, hBy.since⟩⟩)
            clear hRel hR hBd hBy HBoth
            go_wp2_with fail
            go_region
            all_goals go_wp2_with fail
            all_goals (refine (plan_any w _ d D _ x p (by first | exact HP.out | exact HQ.out | exact HP.out.drew | exact HQ.out.drew) hx.2 hp.1 hp.2).mono ?_)
            all_goals (rintro e w8 ⟨rfl, hA8⟩)
            all_goals (have HD := Lib.hid (show Done1 w d G i [rowO Go k x y p] (.int .i64 0) (.int .i64 0) w8 from ⟨0, _, rfl, rfl, a1, b1, _, hA8, HN.out.1, HN.out.2.1, HN.out.2.2.1, HN.out.2.2.2⟩))
            all_goals clear hA8 HP HQ
            all_goals go_wp2_with fail
            all_goals go_meet
            all_goals exact HD.out
          · have e4 : (k == 4) = false := by simpa using k4
            clear k4 hbr hth o0 o1 o2 o3
            obtain ⟨hRel, hR, hBd, hBy⟩ := HBoth.out
            have HD := Lib.hid (show Done1 w d G i [rowO Go k x y p] (.int .i64 0) (.int .i64 0) w5 from ⟨0, _, rfl, rfl, a1, b1, R, HA5.out, hRel, hR, hBd.mono (by omega) (by omega), hBy⟩)
            clear hRel hR hBd hBy HBoth HA5
            go_wp2_with fail
            go_meet
            exact HD.out
        case rest =>
          obtain ⟨v, D1, rfl, rfl, a2, b2, R2, hA, hRel, hR, hBd, hBy⟩ := hcut
          clear HBoth HA5 hbr hth o0 o1 o2 o3
          obtain ⟨Mx, hF, _⟩ := hA.front
          obtain ⟨ga, ca, rfl, _⟩ := hF.form (show 0 < R2.kept.length from hR.pos)
          obtain ⟨hbr, _⟩ := plays_cells hA
          have g0 : wc.cell? ⟨G, 0, none⟩ = some (.slice (some ⟨ga, 0, none⟩) R2.kept.length ca) := hbr 0 _ rfl
          have g2 : wc.cell? ⟨G, 2, none⟩ = some (.bool R2.down) := hbr 2 _ rfl
          have g5 : wc.cell? ⟨G, 5, none⟩ = some (.int .i64 R2.steps) := hbr 5 _ rfl
          have HA := Lib.hid hA
          have HBoth := Lib.hid (show Rel D1 R2 ∧ R2.Ok ∧ Bd R2 (i + 1) (i + 1) ∧ D1.By from ⟨hRel, hR, hBd, hBy⟩)
          have Hdn := Lib.hid (show ∀ q, Calls Try.prog 18 #[.pointer (some ⟨d, 0, none⟩)] (wc.drewN q) fun e w' => e = .returned (.bool R2.down) ∧ w' = wc.drewN q from fun q => (down_any w _ d D1 _ (HA.out.drewN q)).mono fun e w' ⟨h1, h2⟩ => ⟨by rw [h1, hRel.down], h2.symm⟩)
          have Hst := Lib.hid (show ∀ q, Calls Try.prog 19 #[.pointer (some ⟨d, 0, none⟩)] (wc.drewN q) fun e w' => e = .returned (.int .i64 R2.steps) ∧ w' = wc.drewN q from fun q => (steps_any w _ d D1 _ (HA.out.drewN q)).mono fun e w' ⟨h1, h2⟩ => ⟨by rw [h1, hRel.steps], h2.symm⟩)
          have Hln := Lib.hid (show ∀ q, Calls Try.prog 20 #[.pointer (some ⟨d, 0, none⟩)] (wc.drewN q) fun e w' => e = .returned (.int .i64 (R2.kept.length : Int)) ∧ w' = wc.drewN q from fun q => (len_any w _ d D1 _ (HA.out.drewN q)).mono fun e w' ⟨h1, h2⟩ => ⟨by rw [h1, hRel.len], h2.symm⟩)
          clear hA hRel hR hBd hBy hF hbr
          go_wp2_with fail
          go_quiet ((first
            | (go_at_call 18; exact Calls.quiet_of_same (Hdn.out _))
            | (go_at_call 19; exact Calls.quiet_of_same (Hst.out _))
            | (go_at_call 20; exact Calls.quiet_of_same (Hln.out _))))
          have HA := Lib.hid (HA.out.drewN _ : DkAt w (wc.drewN nq) d D1 _)
          clear g0 g2 g5 Hdn Hst Hln
          generalize wc.drewN nq = wd at *
          have hll := HBoth.out.1.len
          have Hlen := Lib.hid hll
          have hln4 : R2.kept.length ≤ 4096 := HBoth.out.2.1.le
          clear hll
          go_wp2_with fail
          go_loopw [11] (fun t wr => ∃ q : Int, -1 ≤ q ∧ q ≤ (R2.kept.length : Int) + 1 ∧ t = .int .i64 q ∧ DkAt w wr d D1 (rA (.slice (some ⟨ga, 0, none⟩) R2.kept.length ca) R2.kept :: rB b2 R2.cache :: rBox G (refCells (.slice (some ⟨ga, 0, none⟩) R2.kept.length ca) b2 R2) :: [rowO Go k x y p])) (fun t _ => ((R2.kept.length : Int) + 1 - intOf t).toNat)
          case atStart => exact ⟨-1, by omega, by omega, rfl, HA.out⟩
          case round =>
            obtain ⟨q, hq1, hq2, rfl, hA⟩ := hrel
            have HA := Lib.hid hA
            clear hA
            by_cases hlq : q ≤ (R2.kept.length : Int)
            · have hb := readM_by D1 HBoth.out.2.2.2 HA.out.ok q
              have hrd := HBoth.out.1.read q
              rw [hrd] at hb
              have HRd := Lib.hid hrd
              generalize hfr : rfRead R2 q = r at hb hrd HRd
              obtain ⟨s, f⟩ := r
              have Hfr := Lib.hid hfr
              have hEq := eqSec_same s hb.1 hb.2.1
              have Hb := Lib.hid hb
              have hzs := zero_sector
              have hz64 := zero_64
              have his : (Try.prog.info? 39).map (·.size) = some s.length := by rw [hb.2.1]; exact info_sector
              have his2 : (Try.prog.info? 37).map (·.size) = some s.length := by rw [hb.2.1]; exact info_64
              clear hb hrd hfr
              go_wp2_with (go_at_call 20; refine (len_any w wr d D1 _ HA.out).mono ?_; rintro e w' ⟨rfl, rfl⟩; rw [Hlen.out])
              refine (read_any w wr d D1 _ q HA.out).mono ?_
              rintro e w6 ⟨rfl, hb6⟩
              rw [HRd.out]
              have HA6 := Lib.hid (HA.out.later hb6)
              clear hb6
              dsimp only
              go_wp2_with (refine wpList_store_dk rfl 39 (.tmp 12) (.tmp 127) rfl HA6.out s w6.heap.size rfl rfl rfl (by rw [Hb.out.2.1]; rfl) his Hb.out.2.2 ?_)
              intro w7 hA7
              generalize w6.heap.size = G7 at *
              have hA7 := hA7.perm (List.perm_append_comm (l₁ := [_]) (l₂ := [_, _, _, _]))
              have HA7 := Lib.hid hA7
              have hbr : w7.rangeAt G 0 (refCells (.slice (some ⟨ga, 0, none⟩) R2.kept.length ca) b2 R2) := (hA7.one (r := rBox G (refCells (.slice (some ⟨ga, 0, none⟩) R2.kept.length ca) b2 R2)) (by simp)).boxRange rfl
              clear hA7 HA6
              go_wp2_with (refine wpList_load_mid rfl 30 (.tmp 6) rfl G 0 rfl (refCells (.slice (some ⟨ga, 0, none⟩) R2.kept.length ca) b2 R2) _ hbr Try.underlying30 rfl (info_r6 _ b2 R2) ?_)
              obtain ⟨Mx, hF, hbk⟩ := HA7.out.front
              refine (ref_read_any w w7 _ b2 R2 Mx q hF HBoth.out.2.1).mono ?_
              rintro e w8 ⟨rfl, hO8⟩
              rw [Hfr.out]
              have HA8 := Lib.hid (hbk w8 _ _ hO8)
              clear hF hbk hO8 hbr HA7
              dsimp only
              go_wp2_with (refine wpList_store_dk rfl 37 (.tmp 14) (.tmp 133) rfl HA8.out s w8.heap.size rfl rfl rfl (by rw [Hb.out.2.1]; rfl) his2 Hb.out.2.2 ?_)
              intro w9 hA9
              generalize w8.heap.size = G9 at *
              have c1 : w9.rangeAt G9 0 s := by have := (hA9.one (List.mem_cons_self ..)).range 0 s.length; rw [List.drop_zero, List.take_length] at this; exact this
              have c2 : w9.rangeAt G7 0 s := by have := (hA9.one (r := ⟨39, s.length, .slice (some ⟨G7, 0, none⟩) 1 1, 1, s⟩) (by simp)).range 0 s.length; rw [List.drop_zero, List.take_length] at this; exact this
              have q1 := (sec_is c1 Hb.out.2.1).1
              have q2 := (sec_is c1 Hb.out.2.1).2
              have q3 := (sec_is c2 Hb.out.2.1).1
              have q4 := (sec_is c2 Hb.out.2.1).2
              have HA9 := Lib.hid ((hA9.drop.perm (List.perm_append_comm (l₁ := [_, _, _, _]) (l₂ := [_]))).drop)
              clear hA9 c1 c2 HA8
              go_wp2_with fail
              go_roundw
              case rel => exact ⟨q + 1, by omega, by omega, by go_num, HA9.out⟩
              case measure => simp [intOf]; omega
            · obtain ⟨hRel, hR, hBd, hBy⟩ := HBoth.out
              have HF := Lib.hid (show PlAt w d G len (.int .i64 ((i + 1 : Nat) : Int)) wr from ⟨i + 1, D1, rfl, by omega, _, b2, R2, (HA.out.perm (List.perm_append_comm (l₁ := [_, _, _]) (l₂ := [_]))).drop, hRel, hR, hBd, hBy⟩)
              clear hRel hR hBd hBy
              go_wp2_with (go_at_call 20; refine (len_any w wr d D1 _ HA.out).mono ?_; rintro e w' ⟨rfl, rfl⟩; rw [Hlen.out])
              go_roundw
              case rel => exact HF.out
              case measure => simp [intOf]; omega
      · obtain rfl : i = len := by omega
        have hbw := hA.below
        clear hA hRel hR hBd hBy Hst
        go_wp2_with fail
        go_ret
        exact ⟨rfl, hbw⟩
end Go.Proofs.Ythmcdmnjjofehaa
