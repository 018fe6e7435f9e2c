/- Texts one behind the other, each in a section of its own: what calls make of memory, step by step. -/
import Derived.Test.YtihnjhigemhknaaGreatDoorTopW1
import Derived.Deep.RegionHeld3
import Derived.Deep.DrawnRows
import Derived.Deep.RegionHeldLaw

/- Blocks that stay as they are while a row grows; the document's number as four bytes, and bytes with their number ahead. -/
section
namespace Go.Proofs.YtihnjhigemhknaaGreatDoor
open Go.RowKit
set_option linter.unusedVariables false
set_option linter.unusedSimpArgs false
set_option maxRecDepth 100000

/-- Bytes that are there as long as some blocks stay as they are. -/
def Fy (w : World) (F : List (Nat × Obj)) (u : Value) (zs : List Int) : Prop := ∀ F', (∀ y ∈ F, y ∈ F') → ∀ W L, Own ⟨w, F'⟩ W L → By W u zs
theorem Fy.up {w : World} {F F' : List (Nat × Obj)} {u : Value} {zs : List Int} (h : Fy w F u zs) (hs : ∀ y ∈ F, y ∈ F') : Fy w F' u zs := fun G hg W L hO => h G (fun y hy => hg y (hs y hy)) W L hO
theorem by_fixed {w : World} {F : List (Nat × Obj)} {W : World} {L : List Rw} (hO : Own ⟨w, F⟩ W L) {g c : Nat} {C : Array Value} {T : TypeId} {mk : Nat × Nat} {zs : List Int} (hm : (g, Obj.cells C T mk) ∈ F) (hC : C.toList.take zs.length = bs zs) (h1 : zs.length ≤ c) (h2 : c ≤ maxLen) (hz : Byts zs) : By W (.slice (some ⟨g, 0, none⟩) zs.length c) zs := by
  have hb := (hO.maps _ hm).2
  refine ⟨.inr ⟨_, _, rfl, fun j v hj => ?_, bs_one _⟩, hz, _, c, rfl, h1, h2⟩
  rw [Addr.add_mid, Nat.zero_add, cell_of_block hb]
  rw [← hC, List.getElem?_take] at hj
  split at hj
  · rw [← hj]; simp
  · cases hj
theorem Own.fixA {W0 : Base} {w : World} {L : List Rw} (h : Own W0 w L) (o : Obj) : Own ⟨W0.world, (w.heap.size, o) :: W0.maps⟩ (w.alloc o) L := by
  have ha := h.alloc o
  refine ⟨ha.below, ha.rows, ha.apart, fun m hm => ?_, fun m hm p hp => ?_⟩
  · rcases List.mem_cons.1 hm with rfl | hm
    · exact ⟨h.size, heap_alloc_new w o⟩
    · exact ha.maps m hm
  · rcases List.mem_cons.1 hm with rfl | hm
    · intro e
      have := (h.lt hp e).2
      omega
    · exact ha.offmaps m hm p hp
/-- A row of bytes that grows no more. -/
theorem Own.freeze {w : World} {F : List (Nat × Obj)} {W : World} {u : Value} {zs : List Int} {L : List Rw} (h : Own ⟨w, F⟩ W (rowU u zs :: L)) (hz : Byts zs) : ∃ F', (∀ y ∈ F, y ∈ F') ∧ Own ⟨w, F'⟩ W L ∧ Fy w F' u zs := by
  have h' : Own ⟨w, F⟩ W (⟨5, 1, u, zs.length, bs zs⟩ :: L) := h
  rcases Nat.eq_zero_or_pos zs.length with h0 | h0
  · obtain rfl : zs = [] := List.eq_nil_of_length_eq_zero h0
    refine ⟨F, fun y hy => hy, h'.tail, fun G hg W' L' hO => ?_⟩
    have hb := h.by hz
    obtain ⟨a, c, hv, h1, h2⟩ := hb.2.2
    refine ⟨?_, hz, a, c, hv, h1, h2⟩
    cases a with
    | none =>
      rcases hb.1 with k | ⟨ad, c', e, _⟩
      · exact .inl k
      · rw [hv] at e; injection e with e1; cases e1
    | some ad => exact .inr ⟨ad, c, hv, fun j x hj => by simp [bs] at hj, fun x hx => by simp [bs] at hx⟩
  · rcases h'.head.2 with ⟨_, h1⟩ | ⟨g, cap, cur, hv, hg, hb, h1, h2, h3, h4⟩
    · have : zs.length = 0 := h1
      omega
    · have hv : u = .slice (some ⟨g, 0, none⟩) zs.length cap := hv
      refine ⟨(g, .cells cur 5 (0, 0)) :: F, fun y hy => List.mem_cons_of_mem _ hy, ⟨h'.below, h'.tail.rows, h'.tail.apart, fun m hm => ?_, fun m hm p hp => ?_⟩, fun G hg' W' L' hO => ?_⟩
      · rcases List.mem_cons.1 hm with rfl | hm
        · exact ⟨hg, hb⟩
        · exact h'.maps m hm
      · rcases List.mem_cons.1 hm with rfl | hm
        · intro e
          have := (List.pairwise_cons.1 h'.apart).1 p hp
          rw [show (⟨5, 1, u, zs.length, bs zs⟩ : Rw).v = u from rfl, hv] at this
          rcases this with k | k
          · cases k
          · exact k e.symm
        · exact h'.tail.offmaps m hm p hp
      · rw [hv]
        have h4' : cur.toList.take zs.length = bs zs := by simpa using h4
        exact by_fixed hO (hg' _ (List.mem_cons_self ..)) h4' h1 h2 hz
theorem conv_row (s : ByteArray) (G : Nat) : (bytesRow s G).toList.take (sb s).length = bs (sb s) := by
  have e : (bytesRow s G).toList = s.data.toList.map (fun b => Value.int .u8 b.toNat) ++ List.replicate (G - s.size) (.int .u8 0) := by
    unfold bytesRow; simp
  rw [e, List.take_left' (by unfold sb; simp)]
  unfold bs sb
  rw [List.map_map]
  rfl
/-- []byte of a text, at a step of a region that draws its order. -/
theorem step_conv {ops : Array Oper} {o : Oper} {a : Act} {W : World} {K : Act → World → Prop} {Q : Exit → Act → World → Prop} {E : Prop} (hgd : o.guard = none) (x : Operand) (ho : o.op = .convert 9 34 x) (s : ByteArray) (hs : s.size ≤ 1000000) (hx : a.eval x = .string s) {w : World} {F : List (Nat × Obj)} {L : List Rw} (hO : Own ⟨w, F⟩ W L)
    (hK : ∀ u W' F', (∀ y ∈ F, y ∈ F') → Own ⟨w, F'⟩ W' L → Fy w F' u (sb s) → K (a.put o.dst u) W') :
    if Region.wanted o (yielded ops a.tmps) = true then Oper.wp Tryz.prog o a W K Q else E := by
  have hw : Region.wanted o (yielded ops a.tmps) = true := by simp [Region.wanted, hgd]
  rw [if_pos hw]
  have hr := run_bytes_of_string (P := Tryz.prog) W 9 34 5 s Tryz.underlying9 Tryz.underlying34 Tryz.underlying5
  have hge : s.size ≤ grownCap W s.size 0 5 := grownCap_ge W _ _ _
  have hle : grownCap W s.size 0 5 ≤ maxLen := grownCap_le_maxLen W s.size 0 _ (by unfold maxLen; omega)
  generalize grownCap W s.size 0 5 = G at *
  have hO2 := hO.drew.fixA (.cells (bytesRow s G) 5 ((bytesRow s G).size, (bytesRow s G).size + 1))
  have hz : (sb s).length = s.size := sb_length s
  unfold Oper.wp
  simp [execOp, ho, hx, hr, Result.andThen]
  refine hK _ _ _ (fun y hy => List.mem_cons_of_mem _ hy) hO2 (fun F' hs' W' L' hO' => ?_)
  have hm : (W.heap.size, Obj.cells (bytesRow s G) 5 ((bytesRow s G).size, (bytesRow s G).size + 1)) ∈ F' := hs' _ (List.mem_cons_self ..)
  have h := by_fixed hO' (g := W.heap.size) (c := G) (zs := sb s) hm (conv_row s G) (by omega) hle (sb_byts s)
  rw [hz] at h
  exact h
set_option maxHeartbeats 2000000 in
theorem refbytes_any (n : Int) (w : World) (h0 : 0 ≤ n) (h1 : n < 4294967296) : Calls Tryz.prog 35 #[.int .i64 n] w fun e w' => ∃ v, e = .returned v ∧ Own w w' [rowU v (le4 n)] := by
  have HO := Lib.hid ((Own.start w).made 5 1 #[.int .u8 (n % 256), .int .u8 (n / 256 % 256), .int .u8 (n / 65536 % 256), .int .u8 (n / 16777216 % 256)] 4 rfl (by unfold maxLen; decide))
  go_enter Tryz.func35, Tryz.ntmps35
  go_wp2_with fail
  go_ret
  refine ⟨_, rfl, ?_⟩
  have e : le4 n = [n % 256, n / 256 % 256, n / 65536 % 256, n / 16777216 % 256] := by
    unfold le4
    have : n / 16777216 % 256 = n / 16777216 := by omega
    rw [this]
  rw [e]
  exact HO.out
set_option maxHeartbeats 4000000 in
theorem refraw_any (v : Value) (zs : List Int) (w : World) (h : By w v zs) (hl : zs.length ≤ 100000000) : Calls Tryz.prog 62 #[v] w fun e w' => ∃ v', e = .returned v' ∧ Own w w' [rowU v' (sizedL zs)] := by
  obtain ⟨av, cv, rfl, _, _⟩ := h.2.2
  have HB := Lib.hid h
  have hn := refbytes_any (zs.length : Int) w (by omega) (by omega)
  obtain ⟨i0, hi, hz0, hz1, hz2⟩ := info_parts info_u
  clear h
  go_enter Tryz.func62, Tryz.ntmps62
  go_wp2_with fail
  refine hn.mono ?_
  rintro e w2 ⟨v2, rfl, hO2⟩
  have hO2' : Own w w2 (⟨5, 1, v2, 4, bs (le4 zs.length)⟩ :: []) := hO2
  obtain ⟨a2, c2, rfl, _, _⟩ := Own.sized (h := hO2')
  have HO := Lib.hid hO2'
  have HSr := Lib.hid (HB.out.later hO2'.below).1
  clear hO2 hO2' hn
  go_wp2_with (at_builtin; refine wpList_append_src rfl (.tmp 5) (.tmp 6) 34 rfl (.slice a2 4 c2) 4 (bs (le4 zs.length)) (.slice av zs.length cv) zs.length (bs zs) rfl rfl HO.out i0 (.int .u8 0) 1 Tryz.underlying34 hi hz0 hz1 hz2 rfl (by decide) HSr.out (by rw [bs_length, Nat.mul_one]) (by unfold maxLen; omega) (by omega) ?_)
  intro v5 w5 hO5
  have HO5 := Lib.hid (show Own w w5 [rowU v5 (sizedL zs)] by
    unfold rowU sizedL
    rw [List.length_append, bs_append, show (le4 (zs.length : Int)).length = 4 from rfl]
    exact hO5)
  obtain ⟨a5, c5, rfl, _, _⟩ := Own.sized (h := hO5)
  clear hO5 HSr HO
  go_wp2_with fail
  go_ret
  exact ⟨_, rfl, HO5.out⟩
end Go.Proofs.YtihnjhigemhknaaGreatDoor
end

/- A package's bytes as the document has them: the walk. -/
section
namespace Go.Proofs.YtihnjhigemhknaaGreatDoor
open Go.RowKit
set_option linter.unusedVariables false
set_option linter.unusedSimpArgs false
set_option maxRecDepth 100000

theorem rowU_app {W0 : Base} {W : World} {v : Value} {X zs : List Int} {L : List Rw} (h : Own W0 W (⟨5, 1, v, X.length + zs.length, bs X ++ bs zs⟩ :: L)) : Own W0 W (rowU v (X ++ zs) :: L) := by
  unfold rowU
  rw [List.length_append, bs_append]
  exact h
def boxQ (D : PkgD) (P : PkL) : Obj := .cells #[.string D.name, .string D.ver, .slice P.an D.needs.length P.cn, .slice P.ac D.confs.length P.cc, .slice P.af D.files.length P.cf, .slice P.au D.units.length P.cu] 32
theorem boxQ_cells {D : PkgD} {P : PkL} {w : World} {F : List (Nat × Obj)} {W : World} {L : List Rw} {H : Nat} (hO : Own ⟨w, F⟩ W L) (hm : (H, boxQ D P) ∈ F) : W.cell? ⟨H, 0, none⟩ = some (.string D.name) ∧ W.cell? ⟨H, 1, none⟩ = some (.string D.ver) ∧ W.cell? ⟨H, 2, none⟩ = some (.slice P.an D.needs.length P.cn) ∧ W.cell? ⟨H, 3, none⟩ = some (.slice P.ac D.confs.length P.cc) ∧ W.cell? ⟨H, 4, none⟩ = some (.slice P.af D.files.length P.cf) ∧ W.cell? ⟨H, 5, none⟩ = some (.slice P.au D.units.length P.cu) := by
  have hb := (hO.maps _ hm).2
  unfold boxQ at hb
  exact ⟨cell_of_block hb 0, cell_of_block hb 1, cell_of_block hb 2, cell_of_block hb 3, cell_of_block hb 4, cell_of_block hb 5⟩
theorem old_cell {w : World} {F : List (Nat × Obj)} {W : World} {L : List Rw} {g q : Nat} {v : Value} (hO : Own ⟨w, F⟩ W L) (h : w.cell? ⟨g, q, none⟩ = some v) : W.cell? ⟨g, q, none⟩ = some v :=
  (hO.below.cell (p := ⟨g, q, none⟩) (World.block_lt_of_cell? _ _ h)).trans h
theorem take_le {α : Type} (f : α → List Int) (xs : List α) (k : Nat) (hn : xs.length ≤ 20) (h : ∀ x ∈ xs, (f x).length ≤ 1000) : (((xs.take k).map f).flatten).length ≤ 20000 := by
  have := flat_le f 1000 (xs.take k) (fun x hx => h x (List.mem_of_mem_take hx))
  have h2 : (xs.take k).length ≤ 20 := by rw [List.length_take]; omega
  have h3 : (xs.take k).length * 1000 ≤ 20 * 1000 := Nat.mul_le_mul_right _ h2
  omega
theorem flat_stepI {α : Type} (f : α → List Int) (xs : List α) (k : Nat) (h : k < xs.length) : ((xs.take (k + 1)).map f).flatten = ((xs.take k).map f).flatten ++ f xs[k] := by
  rw [List.take_add_one, List.getElem?_eq_getElem h, List.map_append, List.flatten_append]
  simp
def isStr (v : Value) : Prop := ∃ s, v = .string s
def strOf : Value → ByteArray
  | .string s => s
  | _ => ⟨#[]⟩
def cnvG (W : World) (s : ByteArray) : Nat := grownCap W s.size 0 5
def cnvO (W : World) (s : ByteArray) : Obj := .cells (bytesRow s (cnvG W s)) 5 ((bytesRow s (cnvG W s)).size, (bytesRow s (cnvG W s)).size + 1)
def cnvA (W : World) (s : ByteArray) : Nat := W.heap.size
def cnvW (W : World) (s : ByteArray) : World := W.drew.alloc (cnvO W s)
theorem wp_conv {dd : Option Tmp} {x : Operand} {ty : TypeId} {ps : String} {af : Array Edge} {gd : Option (Nat × Bool)} {a : Act} {W : World} {K : Act → World → Prop} {Q : Exit → Act → World → Prop} (h : isStr (a.eval x)) :
    Oper.wp Tryz.prog ⟨dd, .convert 9 34 x, ty, ps, af, gd⟩ a W K Q = K (a.put dd (.slice (some ⟨cnvA W (strOf (a.eval x)), 0, none⟩) (strOf (a.eval x)).size (cnvG W (strOf (a.eval x))))) (cnvW W (strOf (a.eval x))) := by
  obtain ⟨s, hx⟩ := h
  have hr := run_bytes_of_string (P := Tryz.prog) W 9 34 5 s Tryz.underlying9 Tryz.underlying34 Tryz.underlying5
  unfold Oper.wp execOp
  simp only [hx, Sem.run_bind, hr, Result.andThen_ok, Sem.run_pure]
  rfl
theorem cnv_own {w : World} {F : List (Nat × Obj)} {W : World} {L : List Rw} (s : ByteArray) (hO : Own ⟨w, F⟩ W L) : Own ⟨w, (cnvA W s, cnvO W s) :: F⟩ (cnvW W s) L := hO.drew.fixA _
theorem cnv_both {w : World} {F : List (Nat × Obj)} {W : World} {L : List Rw} (s : ByteArray) (hs : s.size ≤ 60) (hO : Own ⟨w, F⟩ W L) : ∃ F', (∀ y ∈ F, y ∈ F') ∧ Own ⟨w, F'⟩ (cnvW W s) L ∧ Fy w F' (.slice (some ⟨cnvA W s, 0, none⟩) s.size (cnvG W s)) (sb s) := by
  refine ⟨_, fun y hy => List.mem_cons_of_mem _ hy, cnv_own s hO, fun F' hs' W' L' hO' => ?_⟩
  have hge : s.size ≤ cnvG W s := grownCap_ge W _ _ _
  have hle : cnvG W s ≤ maxLen := grownCap_le_maxLen W s.size 0 _ (by unfold maxLen; omega)
  have hm : (cnvA W s, cnvO W s) ∈ F' := hs' _ (List.mem_cons_self ..)
  have hz : (sb s).length = s.size := sb_length s
  have h := by_fixed hO' (g := cnvA W s) (c := cnvG W s) (zs := sb s) hm (conv_row s _) (by omega) hle (sb_byts s)
  rw [hz] at h
  exact h
def Subs (F F' : List (Nat × Obj)) : Prop := ∀ y ∈ F, y ∈ F'
/-- []byte of a text, in a plain region. -/
theorem wpList_conv {ops : Array Oper} {rest : List Oper} {o : Oper} {a : Act} {W : World} {Q : Exit → Act → World → Prop} (hgd : o.guard = none) (x : Operand) (ho : o.op = .convert 9 34 x) (s : ByteArray) (hs : s.size ≤ 1000000) (hx : a.eval x = .string s) {w : World} {F : List (Nat × Obj)} {L : List Rw} (hO : Own ⟨w, F⟩ W L)
    (hK : ∀ u W' F', Subs F F' → Own ⟨w, F'⟩ W' L → Fy w F' u (sb s) → wpList Tryz.prog ops Q rest (a.put o.dst u) W') : wpList Tryz.prog ops Q (o :: rest) a W := by
  refine wpList_plain hgd fun K hk => ?_
  have h := step_conv (ops := ops) (o := o) (a := a) (W := W) (K := K) (Q := Q) (E := True) hgd x ho s hs hx hO (fun u W' F' h1 h2 h3 => hk _ _ (hK u W' F' h1 h2 h3))
  rwa [if_pos (by simp [Region.wanted, hgd])] at h
theorem Own.unfixed {w : World} {F : List (Nat × Obj)} {W : World} {L : List Rw} (h : Own ⟨w, F⟩ W L) : Own w W L :=
  ⟨h.below, h.rows, h.apart, fun m hm => (by cases hm), fun m hm => (by cases hm)⟩
attribute [local go_sem ↓] wp_conv Go.wp_at_zero Go.wp_at_succ
set_option maxHeartbeats 32000000 in
theorem refpack_any (D : PkgD) (P : PkL) (w : World) (hD : PkAt w D P) (hs : SmallD D) (hway : ∀ n ∈ D.needs, 0 ≤ n.way ∧ n.way < 4294967296) :
    Calls Tryz.prog 34 #[.agg #[.string D.name, .string D.ver, .slice P.an D.needs.length P.cn, .slice P.ac D.confs.length P.cc, .slice P.af D.files.length P.cf, .slice P.au D.units.length P.cu]] w fun e w' => ∃ v, e = .returned v ∧ Own w w' [rowU v (packP D)] := by
  have hO0 := (Own.start w).fixA (boxQ D P)
  have s1 : w.heap.size + 1 = (w.alloc (boxQ D P)).heap.size := by simp
  have HO0 := Lib.hid (show Own ⟨w, [(w.heap.size, boxQ D P)]⟩ _ [rowU (.slice (some ⟨w.heap.size + 1, 0, none⟩) 0 0) []] from hO0.made_at 5 1 #[] 0 (w.heap.size + 1) s1 rfl (by unfold maxLen; decide))
  have HD := Lib.hid hD
  have HS := Lib.hid hs
  have HW := Lib.hid hway
  obtain ⟨i0, hi, hz0, hz1, hz2⟩ := info_parts info_u
  have r2 := hs.needs
  have r3 := hs.confs
  have r4 := hs.files
  have r5 := hs.units
  have r0 := hs.name
  have r1 := hs.ver
  unfold boxQ at HO0
  clear hO0 s1 hD hs hway
  go_enter Tryz.func34, Tryz.ntmps34
  go_wp2_with fail
  go_loopw [3, 4] (fun sv iv wr => ∃ (k : Nat) (F : List (Nat × Obj)), iv = .int .i64 k ∧ k ≤ D.needs.length ∧ (w.heap.size, boxQ D P) ∈ F ∧ Own ⟨w, F⟩ wr [rowU sv (((D.needs.take k).map packN).flatten)]) (fun _ iv _ => D.needs.length - (intOf iv).toNat)
  case atStart => exact ⟨0, _, rfl, Nat.zero_le _, List.mem_cons_self .., HO0.out⟩
  case round =>
    clear HO0
    obtain ⟨k, F, rfl, hk, hbx, hO⟩ := hrel
    have HO := Lib.hid hO
    have BX := Lib.hid hbx
    clear hO hbx
    obtain ⟨p0, p1, p2, p3, p4, p5⟩ := boxQ_cells HO.out BX.out
    clear p0 p1 p4 p5
    by_cases hlt : k < D.needs.length
    · obtain ⟨g, o, hg, hr⟩ := HD.out.needs k (by rw [List.length_map]; exact hlt)
      rw [List.getElem_map] at hr
      have q0 := hr 0 _ rfl
      have q1 := hr 1 _ rfl
      have q2 := hr 2 _ rfl
      rw [Nat.add_zero] at q0
      have hm := HS.out.need _ (List.getElem_mem hlt)
      have hw := HW.out _ (List.getElem_mem hlt)
      have HF := Lib.hid (flat_stepI packN D.needs k hlt)
      have hXl := take_le packN D.needs k r2 (fun n hn => by have := HS.out.need n hn; unfold packN; rw [List.length_append, List.length_append, sizedL_length, sizedL_length, sb_length, sb_length]; show _ + (4 + _) ≤ _; omega)
      clear hr p3
      generalize D.needs[k] = n at *
      obtain ⟨nm, κ, vr⟩ := n
      dsimp only at *
      obtain ⟨hm1, hm2⟩ := hm
      obtain ⟨hw0, hw1⟩ := hw
      obtain ⟨X, hX⟩ : ∃ X, ((D.needs.take k).map packN).flatten = X := ⟨_, rfl⟩
      rw [hX] at HO HF hXl
      have SK := Lib.hid (show ∀ F' W L, (w.heap.size, boxQ D P) ∈ F' → Own ⟨w, F'⟩ W L → (W.cell? ⟨w.heap.size, 2, none⟩ = some (.slice (some ⟨g, o, none⟩) D.needs.length P.cn) ∧ W.cell? ⟨g, o + k * 3, none⟩ = some (.string nm) ∧ W.cell? ⟨g, o + k * 3 + 1, none⟩ = some (.int .i64 κ) ∧ W.cell? ⟨g, o + k * 3 + 2, none⟩ = some (.string vr)) from fun F' W L hb hO' => ⟨by rw [← hg]; exact (boxQ_cells hO' hb).2.2.1, old_cell hO' q0, old_cell hO' q1, old_cell hO' q2⟩)
      have sN := SK.out _ _ _ BX.out HO.out
      rw [hg] at p2
      have hi1 : isStr (.string nm) := ⟨_, rfl⟩
      have hi2 : isStr (.string vr) := ⟨_, rfl⟩
      have he1 : strOf (.string nm) = nm := rfl
      have he2 : strOf (.string vr) = vr := rfl
      clear hg hX q0 q1 q2
      go_wp2_with fail
      clear p2
      go_region_held_law (fun W : World => W.cell? ⟨w.heap.size, 2, none⟩ = some (.slice (some ⟨g, o, none⟩) D.needs.length P.cn) ∧ W.cell? ⟨g, o + k * 3, none⟩ = some (.string nm) ∧ W.cell? ⟨g, o + k * 3 + 1, none⟩ = some (.int .i64 κ) ∧ W.cell? ⟨g, o + k * 3 + 2, none⟩ = some (.string vr)) (first | exact sN | exact SK.out _ _ _ (List.mem_cons_of_mem _ BX.out) (cnv_own _ HO.out) | exact SK.out _ _ _ (List.mem_cons_of_mem _ BX.out) (cnv_own _ HO.out.drew) | exact SK.out _ _ _ (List.mem_cons_of_mem _ (List.mem_cons_of_mem _ BX.out)) (cnv_own _ (cnv_own _ HO.out.drew)) | exact SK.out _ _ _ (List.mem_cons_of_mem _ (List.mem_cons_of_mem _ BX.out)) (cnv_own _ (cnv_own _ HO.out)) | go_keep) (first
        | (refine step_append_src (by rfl) (.tmp 38) (.tmp 46) 34 (by rfl) v17 (X ++ sizedL (sb nm) ++ le4 κ).length (bs (X ++ sizedL (sb nm) ++ le4 κ)) v25 (sizedL (sb vr)).length (bs (sizedL (sb vr))) (by rfl) (by rfl) HO.out i0 (.int .u8 0) 1 Tryz.underlying34 hi hz0 hz1 hz2 rfl (by decide) (R25.out _ (fun y hy => hy) _ _ HO.out).1 (by rw [bs_length, Nat.mul_one]) (by rw [List.length_append, List.length_append, sizedL_length, sizedL_length, sb_length, sb_length, show (le4 κ).length = 4 from rfl]; unfold maxLen; omega) (by rw [List.length_append, List.length_append, sizedL_length, sizedL_length, sb_length, sb_length, show (le4 κ).length = 4 from rfl]; omega) ?_; intro v26 W26 hO'; have HO := Lib.hid (rowU_app hO'); have sN := SK.out _ _ _ BX.out HO.out; clear hO')
        | (have _gate := R16.out; clear _gate; go_at_call 62; refine (refraw_any _ (sb vr) _ (V24.out _ (fun y hy => hy) _ _ HO.out) (by rw [sb_length]; omega)).mono ?_; rintro e W25 ⟨v25, rfl, h25⟩; obtain ⟨F25, hs, hO', hV⟩ := Own.freeze (show Own ⟨w, _⟩ W25 (rowU v25 _ :: [rowU _ _]) from HO.out.join h25) (sizedL_byts _ (sb_byts _) (by rw [sb_length]; omega)); have R25X := Lib.hid hV; clear hV h25; (try have V7 := Lib.hid (V7.out.up hs)); (try have V24 := Lib.hid (V24.out.up hs)); (try have R8 := Lib.hid (R8.out.up hs)); (try have R16 := Lib.hid (R16.out.up hs)); have R25 := R25X; clear R25X; have BX := Lib.hid (hs _ BX.out); have HO := Lib.hid hO'; have sN := SK.out _ _ _ BX.out HO.out; clear hs hO')
        | (have _gate := R16.out; clear _gate; obtain ⟨FcV24, hs, hO', hV⟩ := cnv_both vr hm2 HO.out; have V24X := Lib.hid hV; clear hV; (try have V7 := Lib.hid (V7.out.up hs)); (try have R8 := Lib.hid (R8.out.up hs)); (try have R16 := Lib.hid (R16.out.up hs)); (try have R25 := Lib.hid (R25.out.up hs)); have V24 := V24X; clear V24X; have BX := Lib.hid (hs _ BX.out); have HO := Lib.hid hO'; have sN := SK.out _ _ _ BX.out HO.out; clear hs hO'; go_at_call 62; refine (refraw_any _ (sb vr) _ (V24.out _ (fun y hy => hy) _ _ HO.out) (by rw [sb_length]; omega)).mono ?_; rintro e W25 ⟨v25, rfl, h25⟩; obtain ⟨F25, hs, hO', hV⟩ := Own.freeze (show Own ⟨w, _⟩ W25 (rowU v25 _ :: [rowU _ _]) from HO.out.join h25) (sizedL_byts _ (sb_byts _) (by rw [sb_length]; omega)); have R25X := Lib.hid hV; clear hV h25; (try have V7 := Lib.hid (V7.out.up hs)); (try have V24 := Lib.hid (V24.out.up hs)); (try have R8 := Lib.hid (R8.out.up hs)); (try have R16 := Lib.hid (R16.out.up hs)); have R25 := R25X; clear R25X; have BX := Lib.hid (hs _ BX.out); have HO := Lib.hid hO'; have sN := SK.out _ _ _ BX.out HO.out; clear hs hO')
        | (refine step_append_src (by rfl) (.tmp 30) (.tmp 37) 34 (by rfl) v9 (X ++ sizedL (sb nm)).length (bs (X ++ sizedL (sb nm))) v16 (le4 κ).length (bs (le4 κ)) (by rfl) (by rfl) HO.out i0 (.int .u8 0) 1 Tryz.underlying34 hi hz0 hz1 hz2 rfl (by decide) (R16.out _ (fun y hy => hy) _ _ HO.out).1 (by rw [bs_length, Nat.mul_one]) (by rw [List.length_append, sizedL_length, sb_length, show (le4 κ).length = 4 from rfl]; unfold maxLen; omega) (by rw [List.length_append, sizedL_length, sb_length, show (le4 κ).length = 4 from rfl]; omega) ?_; intro v17 W17 hO'; have HO := Lib.hid (rowU_app hO'); have sN := SK.out _ _ _ BX.out HO.out; clear hO')
        | (obtain ⟨FcV24, hs, hO', hV⟩ := cnv_both vr hm2 HO.out; have V24X := Lib.hid hV; clear hV; (try have V7 := Lib.hid (V7.out.up hs)); (try have R8 := Lib.hid (R8.out.up hs)); (try have R16 := Lib.hid (R16.out.up hs)); (try have R25 := Lib.hid (R25.out.up hs)); have V24 := V24X; clear V24X; have BX := Lib.hid (hs _ BX.out); have HO := Lib.hid hO'; have sN := SK.out _ _ _ BX.out HO.out; clear hs hO'; refine step_append_src (by rfl) (.tmp 30) (.tmp 37) 34 (by rfl) v9 (X ++ sizedL (sb nm)).length (bs (X ++ sizedL (sb nm))) v16 (le4 κ).length (bs (le4 κ)) (by rfl) (by rfl) HO.out i0 (.int .u8 0) 1 Tryz.underlying34 hi hz0 hz1 hz2 rfl (by decide) (R16.out _ (fun y hy => hy) _ _ HO.out).1 (by rw [bs_length, Nat.mul_one]) (by rw [List.length_append, sizedL_length, sb_length, show (le4 κ).length = 4 from rfl]; unfold maxLen; omega) (by rw [List.length_append, sizedL_length, sb_length, show (le4 κ).length = 4 from rfl]; omega) ?_; intro v17 W17 hO'; have HO := Lib.hid (rowU_app hO'); have sN := SK.out _ _ _ BX.out HO.out; clear hO')
        | (have _gate := R8.out; clear _gate; go_at_call 35; refine (refbytes_any κ _ hw0 hw1).mono ?_; rintro e W16 ⟨v16, rfl, h16⟩; obtain ⟨F16, hs, hO', hV⟩ := Own.freeze (show Own ⟨w, _⟩ W16 (rowU v16 _ :: [rowU _ _]) from HO.out.join h16) (le4_byts _ hw0 hw1); have R16X := Lib.hid hV; clear hV h16; (try have V7 := Lib.hid (V7.out.up hs)); (try have V24 := Lib.hid (V24.out.up hs)); (try have R8 := Lib.hid (R8.out.up hs)); (try have R25 := Lib.hid (R25.out.up hs)); have R16 := R16X; clear R16X; have BX := Lib.hid (hs _ BX.out); have HO := Lib.hid hO'; have sN := SK.out _ _ _ BX.out HO.out; clear hs hO')
        | (have _gate := R8.out; clear _gate; obtain ⟨FcV24, hs, hO', hV⟩ := cnv_both vr hm2 HO.out; have V24X := Lib.hid hV; clear hV; (try have V7 := Lib.hid (V7.out.up hs)); (try have R8 := Lib.hid (R8.out.up hs)); (try have R16 := Lib.hid (R16.out.up hs)); (try have R25 := Lib.hid (R25.out.up hs)); have V24 := V24X; clear V24X; have BX := Lib.hid (hs _ BX.out); have HO := Lib.hid hO'; have sN := SK.out _ _ _ BX.out HO.out; clear hs hO'; go_at_call 35; refine (refbytes_any κ _ hw0 hw1).mono ?_; rintro e W16 ⟨v16, rfl, h16⟩; obtain ⟨F16, hs, hO', hV⟩ := Own.freeze (show Own ⟨w, _⟩ W16 (rowU v16 _ :: [rowU _ _]) from HO.out.join h16) (le4_byts _ hw0 hw1); have R16X := Lib.hid hV; clear hV h16; (try have V7 := Lib.hid (V7.out.up hs)); (try have V24 := Lib.hid (V24.out.up hs)); (try have R8 := Lib.hid (R8.out.up hs)); (try have R25 := Lib.hid (R25.out.up hs)); have R16 := R16X; clear R16X; have BX := Lib.hid (hs _ BX.out); have HO := Lib.hid hO'; have sN := SK.out _ _ _ BX.out HO.out; clear hs hO')
        | (refine step_append_src (by rfl) (.tmp 21) (.tmp 29) 34 (by rfl) u3 (X).length (bs (X)) v8 (sizedL (sb nm)).length (bs (sizedL (sb nm))) (by rfl) (by rfl) HO.out i0 (.int .u8 0) 1 Tryz.underlying34 hi hz0 hz1 hz2 rfl (by decide) (R8.out _ (fun y hy => hy) _ _ HO.out).1 (by rw [bs_length, Nat.mul_one]) (by rw [sizedL_length, sb_length]; unfold maxLen; omega) (by rw [sizedL_length, sb_length]; omega) ?_; intro v9 W9 hO'; have HO := Lib.hid (rowU_app hO'); have sN := SK.out _ _ _ BX.out HO.out; clear hO')
        | (obtain ⟨FcV24, hs, hO', hV⟩ := cnv_both vr hm2 HO.out; have V24X := Lib.hid hV; clear hV; (try have V7 := Lib.hid (V7.out.up hs)); (try have R8 := Lib.hid (R8.out.up hs)); (try have R16 := Lib.hid (R16.out.up hs)); (try have R25 := Lib.hid (R25.out.up hs)); have V24 := V24X; clear V24X; have BX := Lib.hid (hs _ BX.out); have HO := Lib.hid hO'; have sN := SK.out _ _ _ BX.out HO.out; clear hs hO'; refine step_append_src (by rfl) (.tmp 21) (.tmp 29) 34 (by rfl) u3 (X).length (bs (X)) v8 (sizedL (sb nm)).length (bs (sizedL (sb nm))) (by rfl) (by rfl) HO.out i0 (.int .u8 0) 1 Tryz.underlying34 hi hz0 hz1 hz2 rfl (by decide) (R8.out _ (fun y hy => hy) _ _ HO.out).1 (by rw [bs_length, Nat.mul_one]) (by rw [sizedL_length, sb_length]; unfold maxLen; omega) (by rw [sizedL_length, sb_length]; omega) ?_; intro v9 W9 hO'; have HO := Lib.hid (rowU_app hO'); have sN := SK.out _ _ _ BX.out HO.out; clear hO')
        | (obtain ⟨FcV7, hs, hO', hV⟩ := cnv_both nm hm1 HO.out.drew; have V7X := Lib.hid hV; clear hV; (try have V24 := Lib.hid (V24.out.up hs)); (try have R8 := Lib.hid (R8.out.up hs)); (try have R16 := Lib.hid (R16.out.up hs)); (try have R25 := Lib.hid (R25.out.up hs)); have V7 := V7X; clear V7X; have BX := Lib.hid (hs _ BX.out); have HO := Lib.hid hO'; have sN := SK.out _ _ _ BX.out HO.out; clear hs hO'; go_at_call 62; refine (refraw_any _ (sb nm) _ (V7.out _ (fun y hy => hy) _ _ HO.out) (by rw [sb_length]; omega)).mono ?_; rintro e W8 ⟨v8, rfl, h8⟩; obtain ⟨F8, hs, hO', hV⟩ := Own.freeze (show Own ⟨w, _⟩ W8 (rowU v8 _ :: [rowU _ _]) from HO.out.join h8) (sizedL_byts _ (sb_byts _) (by rw [sb_length]; omega)); have R8X := Lib.hid hV; clear hV h8; (try have V7 := Lib.hid (V7.out.up hs)); (try have V24 := Lib.hid (V24.out.up hs)); (try have R16 := Lib.hid (R16.out.up hs)); (try have R25 := Lib.hid (R25.out.up hs)); have R8 := R8X; clear R8X; have BX := Lib.hid (hs _ BX.out); have HO := Lib.hid hO'; have sN := SK.out _ _ _ BX.out HO.out; clear hs hO')
        | (obtain ⟨FcV7, hs, hO', hV⟩ := cnv_both nm hm1 HO.out.drew; have V7X := Lib.hid hV; clear hV; (try have V24 := Lib.hid (V24.out.up hs)); (try have R8 := Lib.hid (R8.out.up hs)); (try have R16 := Lib.hid (R16.out.up hs)); (try have R25 := Lib.hid (R25.out.up hs)); have V7 := V7X; clear V7X; have BX := Lib.hid (hs _ BX.out); have HO := Lib.hid hO'; have sN := SK.out _ _ _ BX.out HO.out; clear hs hO'; obtain ⟨FcV24, hs, hO', hV⟩ := cnv_both vr hm2 HO.out; have V24X := Lib.hid hV; clear hV; (try have V7 := Lib.hid (V7.out.up hs)); (try have R8 := Lib.hid (R8.out.up hs)); (try have R16 := Lib.hid (R16.out.up hs)); (try have R25 := Lib.hid (R25.out.up hs)); have V24 := V24X; clear V24X; have BX := Lib.hid (hs _ BX.out); have HO := Lib.hid hO'; have sN := SK.out _ _ _ BX.out HO.out; clear hs hO'; go_at_call 62; refine (refraw_any _ (sb nm) _ (V7.out _ (fun y hy => hy) _ _ HO.out) (by rw [sb_length]; omega)).mono ?_; rintro e W8 ⟨v8, rfl, h8⟩; obtain ⟨F8, hs, hO', hV⟩ := Own.freeze (show Own ⟨w, _⟩ W8 (rowU v8 _ :: [rowU _ _]) from HO.out.join h8) (sizedL_byts _ (sb_byts _) (by rw [sb_length]; omega)); have R8X := Lib.hid hV; clear hV h8; (try have V7 := Lib.hid (V7.out.up hs)); (try have V24 := Lib.hid (V24.out.up hs)); (try have R16 := Lib.hid (R16.out.up hs)); (try have R25 := Lib.hid (R25.out.up hs)); have R8 := R8X; clear R8X; have BX := Lib.hid (hs _ BX.out); have HO := Lib.hid hO'; have sN := SK.out _ _ _ BX.out HO.out; clear hs hO')
        | (obtain ⟨FcV24, hs, hO', hV⟩ := cnv_both vr hm2 HO.out.drew; have V24X := Lib.hid hV; clear hV; (try have V7 := Lib.hid (V7.out.up hs)); (try have R8 := Lib.hid (R8.out.up hs)); (try have R16 := Lib.hid (R16.out.up hs)); (try have R25 := Lib.hid (R25.out.up hs)); have V24 := V24X; clear V24X; have BX := Lib.hid (hs _ BX.out); have HO := Lib.hid hO'; have sN := SK.out _ _ _ BX.out HO.out; clear hs hO'; obtain ⟨FcV7, hs, hO', hV⟩ := cnv_both nm hm1 HO.out; have V7X := Lib.hid hV; clear hV; (try have V24 := Lib.hid (V24.out.up hs)); (try have R8 := Lib.hid (R8.out.up hs)); (try have R16 := Lib.hid (R16.out.up hs)); (try have R25 := Lib.hid (R25.out.up hs)); have V7 := V7X; clear V7X; have BX := Lib.hid (hs _ BX.out); have HO := Lib.hid hO'; have sN := SK.out _ _ _ BX.out HO.out; clear hs hO'; go_at_call 62; refine (refraw_any _ (sb nm) _ (V7.out _ (fun y hy => hy) _ _ HO.out) (by rw [sb_length]; omega)).mono ?_; rintro e W8 ⟨v8, rfl, h8⟩; obtain ⟨F8, hs, hO', hV⟩ := Own.freeze (show Own ⟨w, _⟩ W8 (rowU v8 _ :: [rowU _ _]) from HO.out.join h8) (sizedL_byts _ (sb_byts _) (by rw [sb_length]; omega)); have R8X := Lib.hid hV; clear hV h8; (try have V7 := Lib.hid (V7.out.up hs)); (try have V24 := Lib.hid (V24.out.up hs)); (try have R16 := Lib.hid (R16.out.up hs)); (try have R25 := Lib.hid (R25.out.up hs)); have R8 := R8X; clear R8X; have BX := Lib.hid (hs _ BX.out); have HO := Lib.hid hO'; have sN := SK.out _ _ _ BX.out HO.out; clear hs hO'))
      all_goals (have HXe := Lib.hid (show ((D.needs.take (k + 1)).map packN).flatten = X ++ sizedL (sb nm) ++ le4 κ ++ sizedL (sb vr) by rw [HF.out, List.append_assoc, List.append_assoc]; rfl))
      all_goals (clear sN; go_wp2_with fail; go_roundw; (case rel => exact ⟨k + 1, _, by go_num, hlt, BX.out, by rw [HXe.out]; exact HO.out⟩); (case measure => simp [intOf]; omega))
    · obtain rfl : k = D.needs.length := by omega
      rw [List.take_length] at HO
      obtain ⟨F1, hs1, hO1, hV1⟩ := HO.out.freeze (flat_byts packN D.needs fun n hn => by
        have h1 := HS.out.need n hn
        have h2 := HW.out n hn
        exact (sizedL_byts _ (sb_byts _) (by rw [sb_length]; omega)).append ((le4_byts _ h2.1 h2.2).append (sizedL_byts _ (sb_byts _) (by rw [sb_length]; omega))))
      have VN := Lib.hid hV1
      have BX1 := Lib.hid (hs1 _ BX.out)
      have HO1 := Lib.hid (show Own ⟨w, F1⟩ _ [rowU (.slice (some ⟨wr.heap.size, 0, none⟩) 0 0) []] from hO1.made 5 1 #[] 0 rfl (by unfold maxLen; decide))
      have hNl := flat_le packN 1000 D.needs (fun n hn => by have := HS.out.need n hn; unfold packN; rw [List.length_append, List.length_append, sizedL_length, sizedL_length, sb_length, sb_length]; show _ + (4 + _) ≤ _; omega)
      obtain ⟨NN, hNN⟩ : ∃ NN, (D.needs.map packN).flatten = NN := ⟨_, rfl⟩
      rw [hNN] at VN hNl
      have HNN := Lib.hid hNN
      clear hO1 hV1 hs1 HO BX hNN
      go_wp2_with fail
      clear p2 p3
      go_loopw [5, 6] (fun sv iv wq => ∃ (k : Nat) (F : List (Nat × Obj)), iv = .int .i64 k ∧ k ≤ D.confs.length ∧ (w.heap.size, boxQ D P) ∈ F ∧ Fy w F u3 NN ∧ Own ⟨w, F⟩ wq [rowU sv (((D.confs.take k).map textL).flatten)]) (fun _ iv _ => D.confs.length - (intOf iv).toNat)
      case atStart => exact ⟨0, _, rfl, Nat.zero_le _, BX1.out, VN.out, HO1.out⟩
      case round =>
        clear HO1 BX1 VN
        obtain ⟨k, F, rfl, hk, hbx, hVn, hO⟩ := hrel
        have HO := Lib.hid hO
        have BX := Lib.hid hbx
        have VN := Lib.hid hVn
        clear hO hbx hVn
        obtain ⟨p0, p1, p2, p3, p4, p5⟩ := boxQ_cells HO.out BX.out
        clear p0 p1 p2 p5
        by_cases hlt : k < D.confs.length
        · obtain ⟨g, o, hg, hr⟩ := HD.out.confs k (by rw [List.length_map]; exact hlt)
          rw [List.getElem_map] at hr
          rw [Nat.mul_one] at hr
          have q0 := hr 0 _ rfl
          rw [Nat.add_zero] at q0
          have q0' := old_cell HO.out q0
          have hm1 := HS.out.conf _ (List.getElem_mem hlt)
          have HF := Lib.hid (flat_stepI textL D.confs k hlt)
          have hXl := take_le textL D.confs k r3 (fun n hn => by have := HS.out.conf n hn; rw [textL_len]; omega)
          clear hr p4 q0
          generalize D.confs[k] = x at *
          obtain ⟨X, hX⟩ : ∃ X, ((D.confs.take k).map textL).flatten = X := ⟨_, rfl⟩
          rw [hX] at HO HF hXl
          rw [hg] at p3
          clear hg hX
          go_wp2_with (refine wpList_conv rfl (.tmp 61) rfl x (by omega) rfl HO.out ?_)
          intro u61 W1 F1 hs1 hO1 hV1
          have HO1 := Lib.hid hO1
          have HV1 := Lib.hid hV1
          have Hs1 := Lib.hid hs1
          clear hO1 hV1 hs1 p3 q0'
          go_wp2_with fail
          refine (refraw_any _ (sb x) _ (HV1.out _ (fun y hy => hy) _ _ HO1.out) (by rw [sb_length]; omega)).mono ?_
          rintro e W2 ⟨v2, rfl, h2⟩
          obtain ⟨F2, hs2, hO2, hV2⟩ := Own.freeze (show Own ⟨w, _⟩ W2 (rowU v2 _ :: [rowU _ _]) from HO1.out.join h2) (sizedL_byts _ (sb_byts _) (by rw [sb_length]; omega))
          have HO2 := Lib.hid hO2
          have HV2 := Lib.hid hV2
          have Hs2 := Lib.hid hs2
          clear hO2 hV2 hs2 h2
          go_wp2_with (at_builtin; refine wpList_append_src rfl (.tmp 56) (.tmp 63) 34 rfl u5 X.length (bs X) v2 (sizedL (sb x)).length (bs (sizedL (sb x))) rfl rfl HO2.out i0 (.int .u8 0) 1 Tryz.underlying34 hi hz0 hz1 hz2 rfl (by decide) (HV2.out _ (fun y hy => hy) _ _ HO2.out).1 (by rw [bs_length, Nat.mul_one]) (by rw [sizedL_length, sb_length]; unfold maxLen; omega) (by rw [sizedL_length, sb_length]; omega) ?_)
          intro v9 W9 h9
          have HO9 := Lib.hid (rowU_app h9)
          clear h9
          go_wp2_with fail
          go_roundw
          case rel => exact ⟨k + 1, _, by go_num, hlt, Hs2.out _ (Hs1.out _ BX.out), (VN.out.up Hs1.out).up Hs2.out, by rw [HF.out]; exact HO9.out⟩
          case measure => simp [intOf]; omega
        · obtain rfl : k = D.confs.length := by omega
          rw [List.take_length] at HO
          obtain ⟨F1, hs1, hO1, hV1⟩ := HO.out.freeze (flat_byts textL D.confs fun n hn => textL_byts n (by have := HS.out.conf n hn; omega))
          have VC := Lib.hid hV1
          have VN1 := Lib.hid (VN.out.up hs1)
          have BX1 := Lib.hid (hs1 _ BX.out)
          have HO1 := Lib.hid (show Own ⟨w, F1⟩ _ [rowU (.slice (some ⟨wr.heap.size, 0, none⟩) 0 0) []] from hO1.made 5 1 #[] 0 rfl (by unfold maxLen; decide))
          have hCl := flat_le textL 1000 D.confs (fun n hn => by have := HS.out.conf n hn; rw [textL_len]; omega)
          obtain ⟨CC, hCC⟩ : ∃ CC, (D.confs.map textL).flatten = CC := ⟨_, rfl⟩
          rw [hCC] at VC hCl
          have HCC := Lib.hid hCC
          clear hO1 hV1 hs1 HO BX hCC VN
          go_wp2_with fail
          clear p3 p4
          go_loopw [7, 8, 9] (fun sv iv cv wq => ∃ (k : Nat) (F : List (Nat × Obj)), iv = .int .i64 k ∧ k ≤ D.files.length ∧ (w.heap.size, boxQ D P) ∈ F ∧ Fy w F u3 NN ∧ Fy w F u5 CC ∧ Own ⟨w, F⟩ wq [rowU sv (((D.files.take k).map packF).flatten)]) (fun _ iv _ _ => D.files.length - (intOf iv).toNat)
          case atStart => exact ⟨0, _, rfl, Nat.zero_le _, BX1.out, VN1.out, VC.out, HO1.out⟩
          case round =>
            clear HO1 BX1 VN1 VC
            obtain ⟨k, F, rfl, hk, hbx, hVn, hVc, hO⟩ := hrel
            have HO := Lib.hid hO
            have BX := Lib.hid hbx
            have VN := Lib.hid hVn
            have VC := Lib.hid hVc
            clear hO hbx hVn hVc
            obtain ⟨p0, p1, p2, p3, p4, p5⟩ := boxQ_cells HO.out BX.out
            clear p0 p1 p2 p3
            by_cases hlt : k < D.files.length
            · obtain ⟨g, o, hg, hr⟩ := HD.out.files k (by rw [List.length_map]; exact hlt)
              rw [List.getElem_map] at hr
              have q0 := hr 0 _ rfl
              have q1 := hr 1 _ rfl
              have q2 := hr 2 _ rfl
              rw [Nat.add_zero] at q0
              have hm := HS.out.file _ (List.getElem_mem hlt)
              have HDt := Lib.hid (HD.out.data _ (List.getElem_mem hlt))
              have HF := Lib.hid (flat_stepI packF D.files k hlt)
              have hXl := take_le packF D.files k r4 (fun n hn => by have := HS.out.file n hn; unfold packF; rw [List.length_append, List.length_append, sizedL_length, sizedL_length, sb_length]; show _ + (4 + _) ≤ _; omega)
              clear hr p5
              generalize D.files[k] = n at *
              obtain ⟨pt, fc, fa, fcp, fd⟩ := n
              dsimp only at *
              obtain ⟨hm1, hm2⟩ := hm
              obtain ⟨X, hX⟩ : ∃ X, ((D.files.take k).map packF).flatten = X := ⟨_, rfl⟩
              rw [hX] at HO HF hXl
              have SK := Lib.hid (show ∀ F' W L, (w.heap.size, boxQ D P) ∈ F' → Own ⟨w, F'⟩ W L → (W.cell? ⟨w.heap.size, 4, none⟩ = some (.slice (some ⟨g, o, none⟩) D.files.length P.cf) ∧ W.cell? ⟨g, o + k * 3, none⟩ = some (.string pt) ∧ W.cell? ⟨g, o + k * 3 + 2, none⟩ = some (.slice fa fd.length fcp)) from fun F' W L hb hO' => ⟨by rw [← hg]; exact (boxQ_cells hO' hb).2.2.2.2.1, old_cell hO' q0, old_cell hO' q2⟩)
              have sN := SK.out _ _ _ BX.out HO.out
              rw [hg] at p4
              have q1 := old_cell HO.out q1
              have hi1 : isStr (.string pt) := ⟨_, rfl⟩
              have he1 : strOf (.string pt) = pt := rfl
              clear hg hX q0 q2
              cases fc with
              | true =>
                obtain ⟨κ, hκ⟩ : ∃ κ : Int, κ = 1 := ⟨_, rfl⟩
                have hw0 : 0 ≤ κ := by rw [hκ]; decide
                have hw1 : κ < 4294967296 := by rw [hκ]; decide
                have HXe := Lib.hid (show ((D.files.take (k + 1)).map packF).flatten = X ++ sizedL (sb pt) ++ le4 κ ++ sizedL fd by rw [HF.out, List.append_assoc, List.append_assoc, hκ]; rfl)
                go_wp2_with fail
                rw [← hκ]
                clear p4 q1 hκ
                go_region_held_law (fun W : World => W.cell? ⟨w.heap.size, 4, none⟩ = some (.slice (some ⟨g, o, none⟩) D.files.length P.cf) ∧ W.cell? ⟨g, o + k * 3, none⟩ = some (.string pt) ∧ W.cell? ⟨g, o + k * 3 + 2, none⟩ = some (.slice fa fd.length fcp)) (first | exact sN | exact SK.out _ _ _ (List.mem_cons_of_mem _ BX.out) (cnv_own _ HO.out) | exact SK.out _ _ _ (List.mem_cons_of_mem _ BX.out) (cnv_own _ HO.out.drew) | exact SK.out _ _ _ (List.mem_cons_of_mem _ (List.mem_cons_of_mem _ BX.out)) (cnv_own _ (cnv_own _ HO.out.drew)) | exact SK.out _ _ _ (List.mem_cons_of_mem _ (List.mem_cons_of_mem _ BX.out)) (cnv_own _ (cnv_own _ HO.out)) | go_keep) (first
                  | (refine step_append_src (by rfl) (.tmp 91) (.tmp 98) 34 (by rfl) v12 (X ++ sizedL (sb pt) ++ le4 κ).length (bs (X ++ sizedL (sb pt) ++ le4 κ)) v19 (sizedL fd).length (bs (sizedL fd)) (by rfl) (by rfl) HO.out i0 (.int .u8 0) 1 Tryz.underlying34 hi hz0 hz1 hz2 rfl (by decide) (R19.out _ (fun y hy => hy) _ _ HO.out).1 (by rw [bs_length, Nat.mul_one]) (by rw [List.length_append, List.length_append, sizedL_length, sizedL_length, sb_length, show (le4 κ).length = 4 from rfl]; unfold maxLen; omega) (by rw [List.length_append, List.length_append, sizedL_length, sizedL_length, sb_length, show (le4 κ).length = 4 from rfl]; omega) ?_; intro v20 W20 hO'; have HO := Lib.hid (rowU_app hO'); have sN := SK.out _ _ _ BX.out HO.out; clear hO')
                  | (have _gate := R11.out; clear _gate; go_at_call 62; refine (refraw_any _ fd _ (HDt.out.later HO.out.below) (by omega)).mono ?_; rintro e W19 ⟨v19, rfl, h19⟩; obtain ⟨F19, hs, hO', hV⟩ := Own.freeze (show Own ⟨w, _⟩ W19 (rowU v19 _ :: [rowU _ _]) from HO.out.join h19) (sizedL_byts _ HDt.out.2.1 (by omega)); have R19X := Lib.hid hV; clear hV h19; (try have V7 := Lib.hid (V7.out.up hs)); (try have R8 := Lib.hid (R8.out.up hs)); (try have R11 := Lib.hid (R11.out.up hs)); (try have VN := Lib.hid (VN.out.up hs)); (try have VC := Lib.hid (VC.out.up hs)); have R19 := R19X; clear R19X; have BX := Lib.hid (hs _ BX.out); have HO := Lib.hid hO'; have sN := SK.out _ _ _ BX.out HO.out; clear hs hO')
                  | (refine step_append_src (by rfl) (.tmp 88) (.tmp 90) 34 (by rfl) v9 (X ++ sizedL (sb pt)).length (bs (X ++ sizedL (sb pt))) v11 (le4 κ).length (bs (le4 κ)) (by rfl) (by rfl) HO.out i0 (.int .u8 0) 1 Tryz.underlying34 hi hz0 hz1 hz2 rfl (by decide) (R11.out _ (fun y hy => hy) _ _ HO.out).1 (by rw [bs_length, Nat.mul_one]) (by rw [List.length_append, sizedL_length, sb_length, show (le4 κ).length = 4 from rfl]; unfold maxLen; omega) (by rw [List.length_append, sizedL_length, sb_length, show (le4 κ).length = 4 from rfl]; omega) ?_; intro v12 W12 hO'; have HO := Lib.hid (rowU_app hO'); have sN := SK.out _ _ _ BX.out HO.out; clear hO')
                  | (have _gate := R8.out; clear _gate; go_at_call 35; refine (refbytes_any κ _ hw0 hw1).mono ?_; rintro e W11 ⟨v11, rfl, h11⟩; obtain ⟨F11, hs, hO', hV⟩ := Own.freeze (show Own ⟨w, _⟩ W11 (rowU v11 _ :: [rowU _ _]) from HO.out.join h11) (le4_byts _ hw0 hw1); have R11X := Lib.hid hV; clear hV h11; (try have V7 := Lib.hid (V7.out.up hs)); (try have R8 := Lib.hid (R8.out.up hs)); (try have R19 := Lib.hid (R19.out.up hs)); (try have VN := Lib.hid (VN.out.up hs)); (try have VC := Lib.hid (VC.out.up hs)); have R11 := R11X; clear R11X; have BX := Lib.hid (hs _ BX.out); have HO := Lib.hid hO'; have sN := SK.out _ _ _ BX.out HO.out; clear hs hO')
                  | (refine step_append_src (by rfl) (.tmp 79) (.tmp 87) 34 (by rfl) u7 (X).length (bs (X)) v8 (sizedL (sb pt)).length (bs (sizedL (sb pt))) (by rfl) (by rfl) HO.out i0 (.int .u8 0) 1 Tryz.underlying34 hi hz0 hz1 hz2 rfl (by decide) (R8.out _ (fun y hy => hy) _ _ HO.out).1 (by rw [bs_length, Nat.mul_one]) (by rw [sizedL_length, sb_length]; unfold maxLen; omega) (by rw [sizedL_length, sb_length]; omega) ?_; intro v9 W9 hO'; have HO := Lib.hid (rowU_app hO'); have sN := SK.out _ _ _ BX.out HO.out; clear hO')
                  | (obtain ⟨FcV7, hs, hO', hV⟩ := cnv_both pt hm1 HO.out.drew; have V7X := Lib.hid hV; clear hV; (try have R8 := Lib.hid (R8.out.up hs)); (try have R11 := Lib.hid (R11.out.up hs)); (try have R19 := Lib.hid (R19.out.up hs)); (try have VN := Lib.hid (VN.out.up hs)); (try have VC := Lib.hid (VC.out.up hs)); have V7 := V7X; clear V7X; have BX := Lib.hid (hs _ BX.out); have HO := Lib.hid hO'; have sN := SK.out _ _ _ BX.out HO.out; clear hs hO'; go_at_call 62; refine (refraw_any _ (sb pt) _ (V7.out _ (fun y hy => hy) _ _ HO.out) (by rw [sb_length]; omega)).mono ?_; rintro e W8 ⟨v8, rfl, h8⟩; obtain ⟨F8, hs, hO', hV⟩ := Own.freeze (show Own ⟨w, _⟩ W8 (rowU v8 _ :: [rowU _ _]) from HO.out.join h8) (sizedL_byts _ (sb_byts _) (by rw [sb_length]; omega)); have R8X := Lib.hid hV; clear hV h8; (try have V7 := Lib.hid (V7.out.up hs)); (try have R11 := Lib.hid (R11.out.up hs)); (try have R19 := Lib.hid (R19.out.up hs)); (try have VN := Lib.hid (VN.out.up hs)); (try have VC := Lib.hid (VC.out.up hs)); have R8 := R8X; clear R8X; have BX := Lib.hid (hs _ BX.out); have HO := Lib.hid hO'; have sN := SK.out _ _ _ BX.out HO.out; clear hs hO'))
                all_goals (clear sN; go_wp2_with fail; go_roundw; (case rel => exact ⟨k + 1, _, by go_num, hlt, BX.out, VN.out, VC.out, by rw [HXe.out]; exact HO.out⟩); (case measure => simp [intOf]; omega))
              | false =>
                obtain ⟨κ, hκ⟩ : ∃ κ : Int, κ = 0 := ⟨_, rfl⟩
                have hw0 : 0 ≤ κ := by rw [hκ]; decide
                have hw1 : κ < 4294967296 := by rw [hκ]; decide
                have HXe := Lib.hid (show ((D.files.take (k + 1)).map packF).flatten = X ++ sizedL (sb pt) ++ le4 κ ++ sizedL fd by rw [HF.out, List.append_assoc, List.append_assoc, hκ]; rfl)
                go_wp2_with fail
                rw [← hκ]
                clear p4 q1 hκ
                go_region_held_law (fun W : World => W.cell? ⟨w.heap.size, 4, none⟩ = some (.slice (some ⟨g, o, none⟩) D.files.length P.cf) ∧ W.cell? ⟨g, o + k * 3, none⟩ = some (.string pt) ∧ W.cell? ⟨g, o + k * 3 + 2, none⟩ = some (.slice fa fd.length fcp)) (first | exact sN | exact SK.out _ _ _ (List.mem_cons_of_mem _ BX.out) (cnv_own _ HO.out) | exact SK.out _ _ _ (List.mem_cons_of_mem _ BX.out) (cnv_own _ HO.out.drew) | exact SK.out _ _ _ (List.mem_cons_of_mem _ (List.mem_cons_of_mem _ BX.out)) (cnv_own _ (cnv_own _ HO.out.drew)) | exact SK.out _ _ _ (List.mem_cons_of_mem _ (List.mem_cons_of_mem _ BX.out)) (cnv_own _ (cnv_own _ HO.out)) | go_keep) (first
                  | (refine step_append_src (by rfl) (.tmp 91) (.tmp 98) 34 (by rfl) v12 (X ++ sizedL (sb pt) ++ le4 κ).length (bs (X ++ sizedL (sb pt) ++ le4 κ)) v19 (sizedL fd).length (bs (sizedL fd)) (by rfl) (by rfl) HO.out i0 (.int .u8 0) 1 Tryz.underlying34 hi hz0 hz1 hz2 rfl (by decide) (R19.out _ (fun y hy => hy) _ _ HO.out).1 (by rw [bs_length, Nat.mul_one]) (by rw [List.length_append, List.length_append, sizedL_length, sizedL_length, sb_length, show (le4 κ).length = 4 from rfl]; unfold maxLen; omega) (by rw [List.length_append, List.length_append, sizedL_length, sizedL_length, sb_length, show (le4 κ).length = 4 from rfl]; omega) ?_; intro v20 W20 hO'; have HO := Lib.hid (rowU_app hO'); have sN := SK.out _ _ _ BX.out HO.out; clear hO')
                  | (have _gate := R11.out; clear _gate; go_at_call 62; refine (refraw_any _ fd _ (HDt.out.later HO.out.below) (by omega)).mono ?_; rintro e W19 ⟨v19, rfl, h19⟩; obtain ⟨F19, hs, hO', hV⟩ := Own.freeze (show Own ⟨w, _⟩ W19 (rowU v19 _ :: [rowU _ _]) from HO.out.join h19) (sizedL_byts _ HDt.out.2.1 (by omega)); have R19X := Lib.hid hV; clear hV h19; (try have V7 := Lib.hid (V7.out.up hs)); (try have R8 := Lib.hid (R8.out.up hs)); (try have R11 := Lib.hid (R11.out.up hs)); (try have VN := Lib.hid (VN.out.up hs)); (try have VC := Lib.hid (VC.out.up hs)); have R19 := R19X; clear R19X; have BX := Lib.hid (hs _ BX.out); have HO := Lib.hid hO'; have sN := SK.out _ _ _ BX.out HO.out; clear hs hO')
                  | (refine step_append_src (by rfl) (.tmp 88) (.tmp 90) 34 (by rfl) v9 (X ++ sizedL (sb pt)).length (bs (X ++ sizedL (sb pt))) v11 (le4 κ).length (bs (le4 κ)) (by rfl) (by rfl) HO.out i0 (.int .u8 0) 1 Tryz.underlying34 hi hz0 hz1 hz2 rfl (by decide) (R11.out _ (fun y hy => hy) _ _ HO.out).1 (by rw [bs_length, Nat.mul_one]) (by rw [List.length_append, sizedL_length, sb_length, show (le4 κ).length = 4 from rfl]; unfold maxLen; omega) (by rw [List.length_append, sizedL_length, sb_length, show (le4 κ).length = 4 from rfl]; omega) ?_; intro v12 W12 hO'; have HO := Lib.hid (rowU_app hO'); have sN := SK.out _ _ _ BX.out HO.out; clear hO')
                  | (have _gate := R8.out; clear _gate; go_at_call 35; refine (refbytes_any κ _ hw0 hw1).mono ?_; rintro e W11 ⟨v11, rfl, h11⟩; obtain ⟨F11, hs, hO', hV⟩ := Own.freeze (show Own ⟨w, _⟩ W11 (rowU v11 _ :: [rowU _ _]) from HO.out.join h11) (le4_byts _ hw0 hw1); have R11X := Lib.hid hV; clear hV h11; (try have V7 := Lib.hid (V7.out.up hs)); (try have R8 := Lib.hid (R8.out.up hs)); (try have R19 := Lib.hid (R19.out.up hs)); (try have VN := Lib.hid (VN.out.up hs)); (try have VC := Lib.hid (VC.out.up hs)); have R11 := R11X; clear R11X; have BX := Lib.hid (hs _ BX.out); have HO := Lib.hid hO'; have sN := SK.out _ _ _ BX.out HO.out; clear hs hO')
                  | (refine step_append_src (by rfl) (.tmp 79) (.tmp 87) 34 (by rfl) u7 (X).length (bs (X)) v8 (sizedL (sb pt)).length (bs (sizedL (sb pt))) (by rfl) (by rfl) HO.out i0 (.int .u8 0) 1 Tryz.underlying34 hi hz0 hz1 hz2 rfl (by decide) (R8.out _ (fun y hy => hy) _ _ HO.out).1 (by rw [bs_length, Nat.mul_one]) (by rw [sizedL_length, sb_length]; unfold maxLen; omega) (by rw [sizedL_length, sb_length]; omega) ?_; intro v9 W9 hO'; have HO := Lib.hid (rowU_app hO'); have sN := SK.out _ _ _ BX.out HO.out; clear hO')
                  | (obtain ⟨FcV7, hs, hO', hV⟩ := cnv_both pt hm1 HO.out.drew; have V7X := Lib.hid hV; clear hV; (try have R8 := Lib.hid (R8.out.up hs)); (try have R11 := Lib.hid (R11.out.up hs)); (try have R19 := Lib.hid (R19.out.up hs)); (try have VN := Lib.hid (VN.out.up hs)); (try have VC := Lib.hid (VC.out.up hs)); have V7 := V7X; clear V7X; have BX := Lib.hid (hs _ BX.out); have HO := Lib.hid hO'; have sN := SK.out _ _ _ BX.out HO.out; clear hs hO'; go_at_call 62; refine (refraw_any _ (sb pt) _ (V7.out _ (fun y hy => hy) _ _ HO.out) (by rw [sb_length]; omega)).mono ?_; rintro e W8 ⟨v8, rfl, h8⟩; obtain ⟨F8, hs, hO', hV⟩ := Own.freeze (show Own ⟨w, _⟩ W8 (rowU v8 _ :: [rowU _ _]) from HO.out.join h8) (sizedL_byts _ (sb_byts _) (by rw [sb_length]; omega)); have R8X := Lib.hid hV; clear hV h8; (try have V7 := Lib.hid (V7.out.up hs)); (try have R11 := Lib.hid (R11.out.up hs)); (try have R19 := Lib.hid (R19.out.up hs)); (try have VN := Lib.hid (VN.out.up hs)); (try have VC := Lib.hid (VC.out.up hs)); have R8 := R8X; clear R8X; have BX := Lib.hid (hs _ BX.out); have HO := Lib.hid hO'; have sN := SK.out _ _ _ BX.out HO.out; clear hs hO'))
                all_goals (clear sN; go_wp2_with fail; go_roundw; (case rel => exact ⟨k + 1, _, by go_num, hlt, BX.out, VN.out, VC.out, by rw [HXe.out]; exact HO.out⟩); (case measure => simp [intOf]; omega))
            · obtain rfl : k = D.files.length := by omega
              rw [List.take_length] at HO
              obtain ⟨F1, hs1, hO1, hV1⟩ := HO.out.freeze (flat_byts packF D.files fun n hn => packF_byts n (by have := HS.out.file n hn; omega) (by have := HS.out.file n hn; omega) (HD.out.data n hn).2.1)
              have VF := Lib.hid hV1
              have VN1 := Lib.hid (VN.out.up hs1)
              have VC1 := Lib.hid (VC.out.up hs1)
              have BX1 := Lib.hid (hs1 _ BX.out)
              have HO1 := Lib.hid (show Own ⟨w, F1⟩ _ [rowU (.slice (some ⟨wr.heap.size, 0, none⟩) 0 0) []] from hO1.made 5 1 #[] 0 rfl (by unfold maxLen; decide))
              have hFl := flat_le packF 1000 D.files (fun n hn => by have := HS.out.file n hn; unfold packF; rw [List.length_append, List.length_append, sizedL_length, sizedL_length, sb_length]; show _ + (4 + _) ≤ _; omega)
              obtain ⟨FF, hFF⟩ : ∃ FF, (D.files.map packF).flatten = FF := ⟨_, rfl⟩
              rw [hFF] at VF hFl
              have HFF := Lib.hid hFF
              clear hO1 hV1 hs1 HO BX hFF VN VC
              go_wp2_with fail
              clear p4 p5
              go_loopw [10, 11] (fun sv iv wq => ∃ (k : Nat) (F : List (Nat × Obj)), iv = .int .i64 k ∧ k ≤ D.units.length ∧ (w.heap.size, boxQ D P) ∈ F ∧ Fy w F u3 NN ∧ Fy w F u5 CC ∧ Fy w F u7 FF ∧ Own ⟨w, F⟩ wq [rowU sv (((D.units.take k).map textL).flatten)]) (fun _ iv _ => D.units.length - (intOf iv).toNat)
              case atStart => exact ⟨0, _, rfl, Nat.zero_le _, BX1.out, VN1.out, VC1.out, VF.out, HO1.out⟩
              case round =>
                clear HO1 BX1 VN1 VC1 VF
                obtain ⟨k, F, rfl, hk, hbx, hVn, hVc, hVf, hO⟩ := hrel
                have HO := Lib.hid hO
                have BX := Lib.hid hbx
                have VN := Lib.hid hVn
                have VC := Lib.hid hVc
                have VF := Lib.hid hVf
                clear hO hbx hVn hVc hVf
                obtain ⟨p0, p1, p2, p3, p4, p5⟩ := boxQ_cells HO.out BX.out
                clear p2 p3 p4
                by_cases hlt : k < D.units.length
                · obtain ⟨g, o, hg, hr⟩ := HD.out.units k (by rw [List.length_map]; exact hlt)
                  rw [List.getElem_map] at hr
                  rw [Nat.mul_one] at hr
                  have q0 := hr 0 _ rfl
                  rw [Nat.add_zero] at q0
                  have q0' := old_cell HO.out q0
                  have hm1 := HS.out.unit _ (List.getElem_mem hlt)
                  have HF := Lib.hid (flat_stepI textL D.units k hlt)
                  have hXl := take_le textL D.units k r5 (fun n hn => by have := HS.out.unit n hn; rw [textL_len]; omega)
                  clear hr p0 p1 q0
                  generalize D.units[k] = x at *
                  obtain ⟨X, hX⟩ : ∃ X, ((D.units.take k).map textL).flatten = X := ⟨_, rfl⟩
                  rw [hX] at HO HF hXl
                  rw [hg] at p5
                  clear hg hX
                  go_wp2_with (refine wpList_conv rfl (.tmp 113) rfl x (by omega) rfl HO.out ?_)
                  intro u61 W1 F1 hs1 hO1 hV1
                  have HO1 := Lib.hid hO1
                  have HV1 := Lib.hid hV1
                  have Hs1 := Lib.hid hs1
                  clear hO1 hV1 hs1 p5 q0'
                  go_wp2_with fail
                  refine (refraw_any _ (sb x) _ (HV1.out _ (fun y hy => hy) _ _ HO1.out) (by rw [sb_length]; omega)).mono ?_
                  rintro e W2 ⟨v2, rfl, h2⟩
                  obtain ⟨F2, hs2, hO2, hV2⟩ := Own.freeze (show Own ⟨w, _⟩ W2 (rowU v2 _ :: [rowU _ _]) from HO1.out.join h2) (sizedL_byts _ (sb_byts _) (by rw [sb_length]; omega))
                  have HO2 := Lib.hid hO2
                  have HV2 := Lib.hid hV2
                  have Hs2 := Lib.hid hs2
                  clear hO2 hV2 hs2 h2
                  go_wp2_with (at_builtin; refine wpList_append_src rfl (.tmp 108) (.tmp 115) 34 rfl u10 X.length (bs X) v2 (sizedL (sb x)).length (bs (sizedL (sb x))) rfl rfl HO2.out i0 (.int .u8 0) 1 Tryz.underlying34 hi hz0 hz1 hz2 rfl (by decide) (HV2.out _ (fun y hy => hy) _ _ HO2.out).1 (by rw [bs_length, Nat.mul_one]) (by rw [sizedL_length, sb_length]; unfold maxLen; omega) (by rw [sizedL_length, sb_length]; omega) ?_)
                  intro v9 W9 h9
                  have HO9 := Lib.hid (rowU_app h9)
                  clear h9
                  go_wp2_with fail
                  go_roundw
                  case rel => exact ⟨k + 1, _, by go_num, hlt, Hs2.out _ (Hs1.out _ BX.out), (VN.out.up Hs1.out).up Hs2.out, (VC.out.up Hs1.out).up Hs2.out, (VF.out.up Hs1.out).up Hs2.out, by rw [HF.out]; exact HO9.out⟩
                  case measure => simp [intOf]; omega
                · obtain rfl : k = D.units.length := by omega
                  rw [List.take_length] at HO
                  have HUb := Lib.hid (flat_byts textL D.units fun n hn => textL_byts n (by have := HS.out.unit n hn; omega))
                  have HFb := Lib.hid (flat_byts packF D.files fun n hn => packF_byts n (by have := HS.out.file n hn; omega) (by have := HS.out.file n hn; omega) (HD.out.data n hn).2.1)
                  have HCb := Lib.hid (flat_byts textL D.confs fun n hn => textL_byts n (by have := HS.out.conf n hn; omega))
                  have HNb := Lib.hid (flat_byts packN D.needs fun n hn => by
                    have h1 := HS.out.need n hn
                    have h2 := HW.out n hn
                    exact (sizedL_byts _ (sb_byts _) (by rw [sb_length]; omega)).append ((le4_byts _ h2.1 h2.2).append (sizedL_byts _ (sb_byts _) (by rw [sb_length]; omega))))
                  obtain ⟨F1, hs1, hO1, hV1⟩ := HO.out.freeze HUb.out
                  have VU := Lib.hid hV1
                  have VN := Lib.hid (VN.out.up hs1)
                  have VC := Lib.hid (VC.out.up hs1)
                  have VF := Lib.hid (VF.out.up hs1)
                  have BX := Lib.hid (hs1 _ BX.out)
                  have HO := Lib.hid hO1
                  have hUl := flat_le textL 1000 D.units (fun n hn => by have := HS.out.unit n hn; rw [textL_len]; omega)
                  have HQ := Lib.hid (show packP D = textL D.name ++ (textL D.ver ++ (sizedL (D.needs.map packN).flatten ++ (sizedL (D.confs.map textL).flatten ++ (sizedL (D.files.map packF).flatten ++ sizedL (D.units.map textL).flatten)))) from rfl)
                  obtain ⟨UU, hUU⟩ : ∃ UU, (D.units.map textL).flatten = UU := ⟨_, rfl⟩
                  rw [hUU] at VU hUl HUb
                  rw [HNN.out] at HNb
                  rw [HCC.out] at HCb
                  rw [HFF.out] at HFb
                  rw [hUU, HNN.out, HCC.out, HFF.out] at HQ
                  clear hO1 hV1 hs1 hUU
                  have SK := Lib.hid (show ∀ F' W L, (w.heap.size, boxQ D P) ∈ F' → Own ⟨w, F'⟩ W L → (W.cell? ⟨w.heap.size, 0, none⟩ = some (.string D.name) ∧ W.cell? ⟨w.heap.size, 1, none⟩ = some (.string D.ver)) from fun F' W L hb hO' => ⟨(boxQ_cells hO' hb).1, (boxQ_cells hO' hb).2.1⟩)
                  have sN := SK.out _ _ _ BX.out HO.out
                  have hi1 : isStr (.string D.name) := ⟨_, rfl⟩
                  have he1 : strOf (.string D.name) = D.name := rfl
                  have hi2 : isStr (.string D.ver) := ⟨_, rfl⟩
                  have he2 : strOf (.string D.ver) = D.ver := rfl
                  go_wp2_with fail
                  clear p0 p1 p5
                  go_region_held_law (fun W : World => W.cell? ⟨w.heap.size, 0, none⟩ = some (.string D.name) ∧ W.cell? ⟨w.heap.size, 1, none⟩ = some (.string D.ver)) (first | exact sN | exact SK.out _ _ _ (List.mem_cons_of_mem _ BX.out) (cnv_own _ HO.out) | exact SK.out _ _ _ (List.mem_cons_of_mem _ BX.out) (cnv_own _ HO.out.drew) | exact SK.out _ _ _ (List.mem_cons_of_mem _ (List.mem_cons_of_mem _ BX.out)) (cnv_own _ (cnv_own _ HO.out.drew)) | exact SK.out _ _ _ (List.mem_cons_of_mem _ (List.mem_cons_of_mem _ BX.out)) (cnv_own _ (cnv_own _ HO.out)) | go_keep) (first
                    | (refine step_append_src (by rfl) (.tmp 120) (.tmp 124) 34 (by rfl) v3 (sizedL (sb D.name)).length (bs (sizedL (sb D.name))) v25 (sizedL (sb D.ver)).length (bs (sizedL (sb D.ver))) (by rfl) (by rfl) HO.out i0 (.int .u8 0) 1 Tryz.underlying34 hi hz0 hz1 hz2 rfl (by decide) (R25.out _ (fun y hy => hy) _ _ HO.out).1 (by rw [bs_length, Nat.mul_one]) (by rw [sizedL_length, sizedL_length, sb_length, sb_length]; unfold maxLen; omega) (by rw [sizedL_length, sizedL_length, sb_length, sb_length]; omega) ?_; intro v12 W12 hO'; have HO := Lib.hid (rowU_app hO'); have sN := SK.out _ _ _ BX.out HO.out; clear hO')
                    | (have _gate := G3.out; clear _gate; go_at_call 62; refine (refraw_any _ (sb D.ver) _ (V24.out _ (fun y hy => hy) _ _ HO.out) (by rw [sb_length]; omega)).mono ?_; rintro e W25 ⟨v25, rfl, h25⟩; obtain ⟨F25, hs, hO', hV⟩ := Own.freeze (show Own ⟨w, _⟩ W25 (rowU v25 _ :: [rowU _ _]) from HO.out.join h25) (sizedL_byts _ (sb_byts _) (by rw [sb_length]; omega)); have R25X := Lib.hid hV; clear hV h25; (try have V7 := Lib.hid (V7.out.up hs)); (try have V24 := Lib.hid (V24.out.up hs)); (try have G3 := Lib.hid (G3.out.up hs)); (try have VN := Lib.hid (VN.out.up hs)); (try have VC := Lib.hid (VC.out.up hs)); (try have VF := Lib.hid (VF.out.up hs)); (try have VU := Lib.hid (VU.out.up hs)); have R25 := R25X; clear R25X; have BX := Lib.hid (hs _ BX.out); have HO := Lib.hid hO'; have sN := SK.out _ _ _ BX.out HO.out; clear hs hO')
                    | (have _gate := G3.out; clear _gate; obtain ⟨FcV24, hs, hO', hV⟩ := cnv_both D.ver r1 HO.out; have V24X := Lib.hid hV; clear hV; (try have V7 := Lib.hid (V7.out.up hs)); (try have R25 := Lib.hid (R25.out.up hs)); (try have G3 := Lib.hid (G3.out.up hs)); (try have VN := Lib.hid (VN.out.up hs)); (try have VC := Lib.hid (VC.out.up hs)); (try have VF := Lib.hid (VF.out.up hs)); (try have VU := Lib.hid (VU.out.up hs)); have V24 := V24X; clear V24X; have BX := Lib.hid (hs _ BX.out); have HO := Lib.hid hO'; have sN := SK.out _ _ _ BX.out HO.out; clear hs hO'; go_at_call 62; refine (refraw_any _ (sb D.ver) _ (V24.out _ (fun y hy => hy) _ _ HO.out) (by rw [sb_length]; omega)).mono ?_; rintro e W25 ⟨v25, rfl, h25⟩; obtain ⟨F25, hs, hO', hV⟩ := Own.freeze (show Own ⟨w, _⟩ W25 (rowU v25 _ :: [rowU _ _]) from HO.out.join h25) (sizedL_byts _ (sb_byts _) (by rw [sb_length]; omega)); have R25X := Lib.hid hV; clear hV h25; (try have V7 := Lib.hid (V7.out.up hs)); (try have V24 := Lib.hid (V24.out.up hs)); (try have G3 := Lib.hid (G3.out.up hs)); (try have VN := Lib.hid (VN.out.up hs)); (try have VC := Lib.hid (VC.out.up hs)); (try have VF := Lib.hid (VF.out.up hs)); (try have VU := Lib.hid (VU.out.up hs)); have R25 := R25X; clear R25X; have BX := Lib.hid (hs _ BX.out); have HO := Lib.hid hO'; have sN := SK.out _ _ _ BX.out HO.out; clear hs hO')
                    | (obtain ⟨FcV7, hs, hO', hV⟩ := cnv_both D.name r0 HO.out.drew; have V7X := Lib.hid hV; clear hV; (try have V24 := Lib.hid (V24.out.up hs)); (try have R25 := Lib.hid (R25.out.up hs)); (try have G3 := Lib.hid (G3.out.up hs)); (try have VN := Lib.hid (VN.out.up hs)); (try have VC := Lib.hid (VC.out.up hs)); (try have VF := Lib.hid (VF.out.up hs)); (try have VU := Lib.hid (VU.out.up hs)); have V7 := V7X; clear V7X; have BX := Lib.hid (hs _ BX.out); have HO := Lib.hid hO'; have sN := SK.out _ _ _ BX.out HO.out; clear hs hO'; go_at_call 62; refine (refraw_any _ (sb D.name) _ (V7.out _ (fun y hy => hy) _ _ HO.out) (by rw [sb_length]; omega)).mono ?_; rintro e W3 ⟨v3, rfl, h3⟩; have hO' : Own ⟨w, _⟩ W3 [rowU v3 (sizedL (sb D.name))] := HO.out.join h3; have G3 := Lib.hid trivial; clear h3; have HO := Lib.hid hO'; have sN := SK.out _ _ _ BX.out HO.out; clear hO')
                    | (obtain ⟨FcV7, hs, hO', hV⟩ := cnv_both D.name r0 HO.out.drew; have V7X := Lib.hid hV; clear hV; (try have V24 := Lib.hid (V24.out.up hs)); (try have R25 := Lib.hid (R25.out.up hs)); (try have G3 := Lib.hid (G3.out.up hs)); (try have VN := Lib.hid (VN.out.up hs)); (try have VC := Lib.hid (VC.out.up hs)); (try have VF := Lib.hid (VF.out.up hs)); (try have VU := Lib.hid (VU.out.up hs)); have V7 := V7X; clear V7X; have BX := Lib.hid (hs _ BX.out); have HO := Lib.hid hO'; have sN := SK.out _ _ _ BX.out HO.out; clear hs hO'; obtain ⟨FcV24, hs, hO', hV⟩ := cnv_both D.ver r1 HO.out; have V24X := Lib.hid hV; clear hV; (try have V7 := Lib.hid (V7.out.up hs)); (try have R25 := Lib.hid (R25.out.up hs)); (try have G3 := Lib.hid (G3.out.up hs)); (try have VN := Lib.hid (VN.out.up hs)); (try have VC := Lib.hid (VC.out.up hs)); (try have VF := Lib.hid (VF.out.up hs)); (try have VU := Lib.hid (VU.out.up hs)); have V24 := V24X; clear V24X; have BX := Lib.hid (hs _ BX.out); have HO := Lib.hid hO'; have sN := SK.out _ _ _ BX.out HO.out; clear hs hO'; go_at_call 62; refine (refraw_any _ (sb D.name) _ (V7.out _ (fun y hy => hy) _ _ HO.out) (by rw [sb_length]; omega)).mono ?_; rintro e W3 ⟨v3, rfl, h3⟩; have hO' : Own ⟨w, _⟩ W3 [rowU v3 (sizedL (sb D.name))] := HO.out.join h3; have G3 := Lib.hid trivial; clear h3; have HO := Lib.hid hO'; have sN := SK.out _ _ _ BX.out HO.out; clear hO')
                    | (obtain ⟨FcV24, hs, hO', hV⟩ := cnv_both D.ver r1 HO.out.drew; have V24X := Lib.hid hV; clear hV; (try have V7 := Lib.hid (V7.out.up hs)); (try have R25 := Lib.hid (R25.out.up hs)); (try have G3 := Lib.hid (G3.out.up hs)); (try have VN := Lib.hid (VN.out.up hs)); (try have VC := Lib.hid (VC.out.up hs)); (try have VF := Lib.hid (VF.out.up hs)); (try have VU := Lib.hid (VU.out.up hs)); have V24 := V24X; clear V24X; have BX := Lib.hid (hs _ BX.out); have HO := Lib.hid hO'; have sN := SK.out _ _ _ BX.out HO.out; clear hs hO'; obtain ⟨FcV7, hs, hO', hV⟩ := cnv_both D.name r0 HO.out; have V7X := Lib.hid hV; clear hV; (try have V24 := Lib.hid (V24.out.up hs)); (try have R25 := Lib.hid (R25.out.up hs)); (try have G3 := Lib.hid (G3.out.up hs)); (try have VN := Lib.hid (VN.out.up hs)); (try have VC := Lib.hid (VC.out.up hs)); (try have VF := Lib.hid (VF.out.up hs)); (try have VU := Lib.hid (VU.out.up hs)); have V7 := V7X; clear V7X; have BX := Lib.hid (hs _ BX.out); have HO := Lib.hid hO'; have sN := SK.out _ _ _ BX.out HO.out; clear hs hO'; go_at_call 62; refine (refraw_any _ (sb D.name) _ (V7.out _ (fun y hy => hy) _ _ HO.out) (by rw [sb_length]; omega)).mono ?_; rintro e W3 ⟨v3, rfl, h3⟩; have hO' : Own ⟨w, _⟩ W3 [rowU v3 (sizedL (sb D.name))] := HO.out.join h3; have G3 := Lib.hid trivial; clear h3; have HO := Lib.hid hO'; have sN := SK.out _ _ _ BX.out HO.out; clear hO'))
                  all_goals clear sN
                  all_goals
                    obtain ⟨Y0, hY0⟩ : ∃ Y, sizedL (sb D.name) ++ sizedL (sb D.ver) = Y := ⟨_, rfl⟩
                    rw [hY0] at HO
                    have hl0 : Y0.length ≤ 1000 := by rw [← hY0, List.length_append, sizedL_length, sizedL_length, sb_length, sb_length]; omega
                    have HY0 := Lib.hid hY0
                    clear hY0
                    go_wp2_with fail
                    refine (refraw_any u3 NN _ (VN.out _ (fun y hy => hy) _ _ HO.out) (by omega)).mono ?_
                    rintro e Wr1 ⟨vr1, rfl, hr1⟩
                    have HOr := Lib.hid (show Own ⟨w, _⟩ Wr1 (rowU v12 Y0 :: [rowU vr1 _]) from (HO.out.join hr1).swap)
                    have HSr := Lib.hid ((HOr.out.only (r := rowU vr1 (sizedL NN)) (by simp)).by (sizedL_byts _ HNb.out (by omega))).1
                    clear hr1 HO
                    go_wp2_with (at_builtin; refine wpList_append_src rfl (.tmp 126) (.tmp 128) 34 rfl v12 Y0.length (bs Y0) vr1 (sizedL NN).length (bs (sizedL NN)) rfl rfl HOr.out i0 (.int .u8 0) 1 Tryz.underlying34 hi hz0 hz1 hz2 rfl (by decide) HSr.out (by rw [bs_length, Nat.mul_one]) (by rw [sizedL_length]; unfold maxLen; omega) (by rw [sizedL_length]; omega) ?_)
                    intro va1 Wa1 ha1
                    have HO := Lib.hid ((rowU_app ha1).only (List.mem_cons_self ..))
                    obtain ⟨Y1, hY1⟩ : ∃ Y, Y0 ++ sizedL NN = Y := ⟨_, rfl⟩
                    rw [hY1] at HO
                    have hl1 : Y1.length ≤ 31000 := by rw [← hY1, List.length_append, sizedL_length]; omega
                    have HY1 := Lib.hid hY1
                    clear HOr HSr ha1 hY1
                    go_wp2_with fail
                    refine (refraw_any u5 CC _ (VC.out _ (fun y hy => hy) _ _ HO.out) (by omega)).mono ?_
                    rintro e Wr2 ⟨vr2, rfl, hr2⟩
                    have HOr := Lib.hid (show Own ⟨w, _⟩ Wr2 (rowU va1 Y1 :: [rowU vr2 _]) from (HO.out.join hr2).swap)
                    have HSr := Lib.hid ((HOr.out.only (r := rowU vr2 (sizedL CC)) (by simp)).by (sizedL_byts _ HCb.out (by omega))).1
                    clear hr2 HO
                    go_wp2_with (at_builtin; refine wpList_append_src rfl (.tmp 129) (.tmp 131) 34 rfl va1 Y1.length (bs Y1) vr2 (sizedL CC).length (bs (sizedL CC)) rfl rfl HOr.out i0 (.int .u8 0) 1 Tryz.underlying34 hi hz0 hz1 hz2 rfl (by decide) HSr.out (by rw [bs_length, Nat.mul_one]) (by rw [sizedL_length]; unfold maxLen; omega) (by rw [sizedL_length]; omega) ?_)
                    intro va2 Wa2 ha2
                    have HO := Lib.hid ((rowU_app ha2).only (List.mem_cons_self ..))
                    obtain ⟨Y2, hY2⟩ : ∃ Y, Y1 ++ sizedL CC = Y := ⟨_, rfl⟩
                    rw [hY2] at HO
                    have hl2 : Y2.length ≤ 61000 := by rw [← hY2, List.length_append, sizedL_length]; omega
                    have HY2 := Lib.hid hY2
                    clear HOr HSr ha2 hY2
                    go_wp2_with fail
                    refine (refraw_any u7 FF _ (VF.out _ (fun y hy => hy) _ _ HO.out) (by omega)).mono ?_
                    rintro e Wr3 ⟨vr3, rfl, hr3⟩
                    have HOr := Lib.hid (show Own ⟨w, _⟩ Wr3 (rowU va2 Y2 :: [rowU vr3 _]) from (HO.out.join hr3).swap)
                    have HSr := Lib.hid ((HOr.out.only (r := rowU vr3 (sizedL FF)) (by simp)).by (sizedL_byts _ HFb.out (by omega))).1
                    clear hr3 HO
                    go_wp2_with (at_builtin; refine wpList_append_src rfl (.tmp 133) (.tmp 135) 34 rfl va2 Y2.length (bs Y2) vr3 (sizedL FF).length (bs (sizedL FF)) rfl rfl HOr.out i0 (.int .u8 0) 1 Tryz.underlying34 hi hz0 hz1 hz2 rfl (by decide) HSr.out (by rw [bs_length, Nat.mul_one]) (by rw [sizedL_length]; unfold maxLen; omega) (by rw [sizedL_length]; omega) ?_)
                    intro va3 Wa3 ha3
                    have HO := Lib.hid ((rowU_app ha3).only (List.mem_cons_self ..))
                    obtain ⟨Y3, hY3⟩ : ∃ Y, Y2 ++ sizedL FF = Y := ⟨_, rfl⟩
                    rw [hY3] at HO
                    have hl3 : Y3.length ≤ 91000 := by rw [← hY3, List.length_append, sizedL_length]; omega
                    have HY3 := Lib.hid hY3
                    clear HOr HSr ha3 hY3
                    go_wp2_with fail
                    refine (refraw_any u10 UU _ (VU.out _ (fun y hy => hy) _ _ HO.out) (by omega)).mono ?_
                    rintro e Wr4 ⟨vr4, rfl, hr4⟩
                    have HOr := Lib.hid (show Own ⟨w, _⟩ Wr4 (rowU va3 Y3 :: [rowU vr4 _]) from (HO.out.join hr4).swap)
                    have HSr := Lib.hid ((HOr.out.only (r := rowU vr4 (sizedL UU)) (by simp)).by (sizedL_byts _ HUb.out (by omega))).1
                    clear hr4 HO
                    go_wp2_with (at_builtin; refine wpList_append_src rfl (.tmp 136) (.tmp 138) 34 rfl va3 Y3.length (bs Y3) vr4 (sizedL UU).length (bs (sizedL UU)) rfl rfl HOr.out i0 (.int .u8 0) 1 Tryz.underlying34 hi hz0 hz1 hz2 rfl (by decide) HSr.out (by rw [bs_length, Nat.mul_one]) (by rw [sizedL_length]; unfold maxLen; omega) (by rw [sizedL_length]; omega) ?_)
                    intro va4 Wa4 ha4
                    have HO := Lib.hid ((rowU_app ha4).only (List.mem_cons_self ..))
                    obtain ⟨Y4, hY4⟩ : ∃ Y, Y3 ++ sizedL UU = Y := ⟨_, rfl⟩
                    rw [hY4] at HO
                    have hl4 : Y4.length ≤ 121000 := by rw [← hY4, List.length_append, sizedL_length]; omega
                    have HY4 := Lib.hid hY4
                    clear HOr HSr ha4 hY4
                    go_wp2_with fail
                    go_ret
                    have e : packP D = Y4 := by
                      rw [HQ.out, ← HY4.out, ← HY3.out, ← HY2.out, ← HY1.out, ← HY0.out]
                      simp only [textL, List.append_assoc]
                    have hfin := HO.out.unfixed
                    rw [← e] at hfin
                    exact ⟨va4, rfl, hfin⟩
end Go.Proofs.YtihnjhigemhknaaGreatDoor
end
