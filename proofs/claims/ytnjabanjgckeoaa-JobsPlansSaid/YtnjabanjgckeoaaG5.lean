/- apart: the same unit in rows of its own. -/
import Derived.Test.YtnjabanjgckeoaaG4
namespace Go.Proofs.Ytnjabanjgckeoaa
open Go.RowKit
open Go.ChangeMaps (setBlock)
set_option linter.unusedVariables false
set_option linter.unusedSimpArgs false
set_option maxRecDepth 100000

def rowsL : List Value → List (List Nm) → List Rw
  | v :: vs, l :: ls => rowsL vs ls ++ [rowSs v l]
  | _, _ => []
theorem rowsL_snoc : ∀ (vs : List Value) (ls : List (List Nm)) (v : Value) (l : List Nm), vs.length = ls.length → rowsL (vs ++ [v]) (ls ++ [l]) = rowSs v l :: rowsL vs ls := by
  intro vs
  induction vs with
  | nil => intro ls v l h; cases ls with | nil => rfl | cons a r => simp at h
  | cons a r ih =>
    intro ls v l h
    cases ls with
    | nil => simp at h
    | cons b s =>
      simp only [List.cons_append, rowsL]
      rw [ih s v l (by simpa using h)]
      rfl
theorem Sts.shape {w : World} {v : Value} {ls : List Nm} (h : Sts w v ls) : ∃ a n c, v = .slice a n c := by
  obtain ⟨a, c, e, _⟩ := h
  exact ⟨a, _, c, e⟩
def ptr1 (b k : Nat) : Value := .pointer (some ⟨b, k, none⟩)
theorem box_at (n r : Value) (ys VS : List Value) (k : Nat) (hy : ys.length = k) (hk : k < VS.length) : ([n] ++ ys ++ VS.drop k ++ [r])[k + 1]? = some VS[k] ∧ ∀ v, ([n] ++ ys ++ VS.drop k ++ [r]).set (k + 1) v = [n] ++ (ys ++ [v]) ++ VS.drop (k + 1) ++ [r] := by
  have hd : VS.drop k = VS[k] :: VS.drop (k + 1) := List.drop_eq_getElem_cons _
  have hl : ([n] ++ ys).length = k + 1 := by simp; omega
  rw [hd]
  generalize VS[k] = x
  generalize VS.drop (k + 1) = t
  refine ⟨?_, fun v => ?_⟩
  · rw [List.append_assoc, List.getElem?_append_right (by omega), hl]; simp
  · rw [List.append_assoc, List.set_append_right _ _ (by omega), hl]; simp
theorem Own.oneV {W0 : Base} {w : World} {L : List Rw} (h : Own W0 w L) {p : Rw} (hp : p ∈ L) : p.v.oneCell' = true := by
  rcases (h.rows p hp).2 with ⟨e, _⟩ | ⟨g, c, cur, e, _⟩
  · rw [e]; rfl
  · rw [e]; rfl
theorem ret_cellG {P : Program} {fn : Func} {p : Tmp} {ty : TypeId} (h : fn.results = #[.cell p ty]) {tmps : Array Value} {w : World} {b : Nat} {cs : List Value} {d : TypeDesc} (hp : tmps.getD p undef = .pointer (some ⟨b, 0, none⟩))
    (hr : w.rangeAt b 0 cs) (ht : P.underlying ty = some d) (hd : d.isRow = true) (hi : (P.info? ty).map (·.size) = some cs.length) : (results fn tmps).run P w = .ok (.agg cs.toArray) w := by
  have e : (asAddr (.pointer (some ⟨b, 0, none⟩))).run P w = .ok ⟨b, 0, none⟩ w := rfl
  have hp' : tmps[p]?.getD undef = .pointer (some ⟨b, 0, none⟩) := by simpa using hp
  simp only [results, h]
  simp [Sem.run_bind, Result.andThen, hp', e, run_loadVar_mid w b 0 ty cs d hr ht hd hi]
set_option maxHeartbeats 4000000 in
theorem apart_any (w : World) (x : UV) (u : GU) (h : UVIs w x u) (hb : Bnd u) :
    Calls Try.prog 18 #[x.val] w fun e w' => ∃ y : UV, e = .returned y.val ∧ y.name = u.name ∧ y.ret = u.ret ∧ Own w w' (rows6 y u) := by
  have hname := h.name
  have hret := h.ret
  obtain ⟨n0, v1, v2, v3, v4, v5, v6, rt⟩ := x
  have S := Lib.hid (show ∀ k (hk : k < 6), ∃ l, u.lists[k]? = some l ∧ l.length ≤ 1000000 ∧ Sts w ([v1, v2, v3, v4, v5, v6].getD k undef) l from fun k hk => by
    match k, hk with
    | 0, _ => exact ⟨_, rfl, hb.b1, h.s1⟩
    | 1, _ => exact ⟨_, rfl, hb.b2, h.s2⟩
    | 2, _ => exact ⟨_, rfl, hb.b3, h.s3⟩
    | 3, _ => exact ⟨_, rfl, hb.b4, h.s4⟩
    | 4, _ => exact ⟨_, rfl, hb.b5, h.s5⟩
    | 5, _ => exact ⟨_, rfl, hb.b6, h.s6⟩)
  have hname : n0 = u.name := hname
  have hret : rt = u.ret := hret
  subst hname hret
  obtain ⟨a1, m1, c1, e1⟩ := h.s1.shape
  obtain ⟨a2, m2, c2, e2⟩ := h.s2.shape
  obtain ⟨a3, m3, c3, e3⟩ := h.s3.shape
  obtain ⟨a4, m4, c4, e4⟩ := h.s4.shape
  obtain ⟨a5, m5, c5, e5⟩ := h.s5.shape
  obtain ⟨a6, m6, c6, e6⟩ := h.s6.shape
  simp only at e1 e2 e3 e4 e5 e6
  subst e1 e2 e3 e4 e5 e6
  have HU := Lib.hid (show u.lists.length = 6 from rfl)
  have HF := Lib.hid (show ∀ y : UV, rowsL [y.v1, y.v2, y.v3, y.v4, y.v5, y.v6] u.lists = (rows6 y u).reverse from fun y => rfl)
  clear h hb
  have O1 := (Own.start w).made_at 44 8 #[.string (toB u.name), .slice a1 m1 c1, .slice a2 m2 c2, .slice a3 m3 c3, .slice a4 m4 c4, .slice a5 m5 c5, .slice a6 m6 c6, .int .i64 u.ret] 1 w.heap.size rfl rfl (by unfold maxLen; decide)
  have O2 := O1.made_at 44 8 #[.string ⟨#[]⟩, .slice none 0 0, .slice none 0 0, .slice none 0 0, .slice none 0 0, .slice none 0 0, .slice none 0 0, .int .i64 0] 1 (w.heap.size + 1) (by simp) rfl (by unfold maxLen; decide)
  have O3 := O2.made_at 69 1 #[.pointer (some ⟨w.heap.size, 1, none⟩), .pointer (some ⟨w.heap.size, 2, none⟩), .pointer (some ⟨w.heap.size, 3, none⟩), .pointer (some ⟨w.heap.size, 4, none⟩), .pointer (some ⟨w.heap.size, 5, none⟩), .pointer (some ⟨w.heap.size, 6, none⟩)] 6 (w.heap.size + 1 + 1) (by simp) rfl (by unfold maxLen; decide)
  obtain ⟨W3, hW3⟩ : ∃ W3, W3 = ((w.alloc (.cells #[.string (toB u.name), .slice a1 m1 c1, .slice a2 m2 c2, .slice a3 m3 c3, .slice a4 m4 c4, .slice a5 m5 c5, .slice a6 m6 c6, .int .i64 u.ret] 44)).alloc (.cells #[.string ⟨#[]⟩, .slice none 0 0, .slice none 0 0, .slice none 0 0, .slice none 0 0, .slice none 0 0, .slice none 0 0, .int .i64 0] 44)).alloc (.cells #[.pointer (some ⟨w.heap.size, 1, none⟩), .pointer (some ⟨w.heap.size, 2, none⟩), .pointer (some ⟨w.heap.size, 3, none⟩), .pointer (some ⟨w.heap.size, 4, none⟩), .pointer (some ⟨w.heap.size, 5, none⟩), .pointer (some ⟨w.heap.size, 6, none⟩)] 69) := ⟨_, rfl⟩
  rw [← hW3] at O3
  have HW3 := Lib.hid hW3
  show Calls Try.prog 18 #[.agg #[.string (toB u.name), .slice a1 m1 c1, .slice a2 m2 c2, .slice a3 m3 c3, .slice a4 m4 c4, .slice a5 m5 c5, .slice a6 m6 c6, .int .i64 u.ret]] w _
  obtain ⟨VS, hVS⟩ : ∃ VS, VS = [Value.slice a1 m1 c1, .slice a2 m2 c2, .slice a3 m3 c3, .slice a4 m4 c4, .slice a5 m5 c5, .slice a6 m6 c6] := ⟨_, rfl⟩
  have hVl : VS.length = 6 := by rw [hVS]; rfl
  obtain ⟨ZL, hZL⟩ : ∃ ZL : List Value, ZL = (#[.string ⟨#[]⟩, .slice none 0 0, .slice none 0 0, .slice none 0 0, .slice none 0 0, .slice none 0 0, .slice none 0 0, .int .i64 0] : Array Value).toList := ⟨_, rfl⟩
  obtain ⟨PL, hPL⟩ : ∃ PL : List Value, PL = (#[.pointer (some ⟨w.heap.size, 1, none⟩), .pointer (some ⟨w.heap.size, 2, none⟩), .pointer (some ⟨w.heap.size, 3, none⟩), .pointer (some ⟨w.heap.size, 4, none⟩), .pointer (some ⟨w.heap.size, 5, none⟩), .pointer (some ⟨w.heap.size, 6, none⟩)] : Array Value).toList := ⟨_, rfl⟩
  have HP := Lib.hid (show ∀ k, k < 6 → PL[k]? = some (.pointer (some ⟨w.heap.size, k + 1, none⟩)) from fun k hk => by
    rw [hPL]
    match k, hk with
    | 0, _ => rfl
    | 1, _ => rfl
    | 2, _ => rfl
    | 3, _ => rfl
    | 4, _ => rfl
    | 5, _ => rfl)
  have HS := Lib.hid (show ∀ k (hk : k < VS.length), ∃ l, u.lists[k]? = some l ∧ l.length ≤ 1000000 ∧ Sts w VS[k] l from fun k hk => by
    obtain ⟨l, e1, e2, e3⟩ := S.out k (by omega)
    refine ⟨l, e1, e2, ?_⟩
    rw [← hVS, List.getD, List.getElem?_eq_getElem hk] at e3
    exact e3)
  have HO : Hid (Own w W3 (⟨44, 8, .slice (some ⟨w.heap.size, 0, none⟩) 1 1, 1, [Value.string (toB u.name)] ++ [] ++ VS.drop 0 ++ [Value.int .i64 u.ret]⟩ :: ⟨69, 1, .slice (some ⟨w.heap.size + 1 + 1, 0, none⟩) 6 6, 6, PL⟩ :: ⟨44, 8, .slice (some ⟨w.heap.size + 1, 0, none⟩) 1 1, 1, ZL⟩ :: [])) := by
    rw [hVS, hPL, hZL]
    exact O3.third
  have HZ := Lib.hid (show ZL.length = 8 from by rw [hZL]; rfl)
  have HVl := Lib.hid hVl
  clear O1 O2 O3 hW3 hVS hZL hPL hVl S hret hname
  generalize hnb : toB u.name = nb at HW3 HO ⊢
  generalize hrt : u.ret = rt at HW3 HO ⊢
  have HNB := Lib.hid hnb
  have HRT := Lib.hid hrt
  clear hnb hrt
  go_enter Try.func18, Try.ntmps18
  go_wp2_with fail
  rw [← HW3.out]
  clear HW3
  go_loopw [13] (fun s wr => ∃ (k : Nat) (ys : List Value), k ≤ 6 ∧ s = .int .i64 k ∧ Hid (ys.length = k) ∧ Hid (Own w wr (⟨44, 8, .slice (some ⟨w.heap.size, 0, none⟩) 1 1, 1, [Value.string nb] ++ ys ++ VS.drop k ++ [Value.int .i64 rt]⟩ :: ⟨69, 1, .slice (some ⟨w.heap.size + 1 + 1, 0, none⟩) 6 6, 6, PL⟩ :: ⟨44, 8, .slice (some ⟨w.heap.size + 1, 0, none⟩) 1 1, 1, ZL⟩ :: rowsL ys (u.lists.take k)))) (fun s _ => 6 - (intOf s).toNat)
  case atStart => exact ⟨0, [], Nat.zero_le _, rfl, rfl, HO.out⟩
  case round =>
    obtain ⟨k, ys, hk, rfl, HY, HR⟩ := hrel
    by_cases hlt : k < 6
    · obtain ⟨l, hl1, hl2, hl3⟩ := HS.out k (by rw [HVl.out]; exact hlt)
      have cp : wr.cell? ⟨w.heap.size + 1 + 1, k, none⟩ = some (.pointer (some ⟨w.heap.size, k + 1, none⟩)) := by
        rw [HR.out.swap.cell k (by omega)]; exact HP.out k hlt
      obtain ⟨hat, hset⟩ := box_at (.string nb) (.int .i64 rt) ys VS k HY.out (by rw [HVl.out]; exact hlt)
      have cv : wr.cell? ⟨w.heap.size, k + 1, none⟩ = some (VS[k]'(by rw [HVl.out]; exact hlt)) := by
        rw [HR.out.cell (k + 1) (by omega)]; exact hat
      have fv : wr.frozen? ⟨w.heap.size, k + 1, none⟩ = false := HR.out.free (k + 1)
      have hcall := cloneS_sts _ l wr (hl3.later HR.out.below) hl2
      have HSet := Lib.hid hset
      have Hl1 := Lib.hid hl1
      clear hl1 hl2 hl3 hat hset
      generalize hvk : (VS[k]'(by rw [HVl.out]; exact hlt)) = vk at *
      have Hvk := Lib.hid hvk
      clear hvk
      go_wp2_with (go_at_call 35; refine hcall.mono ?_; rintro e w8 ⟨v8, rfl, hO8⟩; have HO8 := Lib.hid (HR.out.join hO8); have hb8 := hO8.below; have cp8 := hb8.cell (p := ⟨w.heap.size, k + 1, none⟩) (World.block_lt_of_cell? wr ⟨w.heap.size, k + 1, none⟩ cv); have cv8 := cp8.trans cv; have fv8 : w8.frozen? ⟨w.heap.size, k + 1, none⟩ = false := (show Own w w8 (_ :: _) from HO8.out.swap).free (k + 1); obtain ⟨a8, n8, c8, rfl⟩ := hO8.sts.shape; clear hb8 cp8 cv fv cp)
      have HO9 := Lib.hid ((show Own w w8 (_ :: _) from HO8.out.swap).set (k + 1) (.slice a8 n8 c8))
      rw [HSet.out] at HO9
      go_roundw
      case rel =>
        refine ⟨k + 1, ys ++ [.slice a8 n8 c8], by omega, by go_num, (by show (ys ++ [Value.slice a8 n8 c8]).length = k + 1; simp [HY.out]), (show Own _ _ _ from ?_)⟩
        have e1 : u.lists.take (k + 1) = u.lists.take k ++ [l] := by
          rw [List.take_add_one, Hl1.out]; rfl
        rw [e1, rowsL_snoc _ _ _ _ (by rw [HY.out, List.length_take, HU.out]; omega)]
        exact HO9.out.perm ((((List.Perm.swap _ _ _).cons _).trans (((List.Perm.swap _ _ _).cons _).cons _)).trans (List.Perm.refl _))
      case measure => simp [intOf]; omega
    · obtain rfl : k = 6 := by omega
      obtain ⟨y1, y2, y3, y4, y5, y6, rfl⟩ : ∃ a b c d e f, ys = [a, b, c, d, e, f] := by
        match ys, HY.out with
        | [a, b, c, d, e, f], _ => exact ⟨a, b, c, d, e, f, rfl⟩
      have e0 : [Value.string nb] ++ [y1, y2, y3, y4, y5, y6] ++ VS.drop 6 ++ [Value.int .i64 rt] = [Value.string nb, y1, y2, y3, y4, y5, y6, .int .i64 rt] := by
        rw [List.drop_eq_nil_of_le (by rw [HVl.out]; exact Nat.le_refl _)]; rfl
      have hR := HR.out
      rw [e0, show u.lists.take 6 = u.lists from List.take_of_length_le (by rw [HU.out]; exact Nat.le_refl _)] at hR
      have hR6 := HF.out ⟨u.name, y1, y2, y3, y4, y5, y6, rt⟩
      simp only at hR6
      rw [hR6] at hR
      have hone : ∀ v ∈ [Value.string nb, y1, y2, y3, y4, y5, y6, .int .i64 rt], v.oneCell' = true := by
        have k1 := fun p (hp : p ∈ rows6 ⟨u.name, y1, y2, y3, y4, y5, y6, rt⟩ u) => hR.oneV (p := p) (List.mem_cons_of_mem _ (List.mem_cons_of_mem _ (List.mem_cons_of_mem _ (List.mem_reverse.2 hp))))
        intro v hv
        simp only [List.mem_cons, List.not_mem_nil, or_false] at hv
        rcases hv with rfl | rfl | rfl | rfl | rfl | rfl | rfl | rfl
        · rfl
        · exact k1 (rowSs _ _) (List.mem_cons_self ..)
        · exact k1 (rowSs _ _) (List.mem_cons_of_mem _ (List.mem_cons_self ..))
        · exact k1 (rowSs _ _) (List.mem_cons_of_mem _ (List.mem_cons_of_mem _ (List.mem_cons_self ..)))
        · exact k1 (rowSs _ _) (List.mem_cons_of_mem _ (List.mem_cons_of_mem _ (List.mem_cons_of_mem _ (List.mem_cons_self ..))))
        · exact k1 (rowSs _ _) (List.mem_cons_of_mem _ (List.mem_cons_of_mem _ (List.mem_cons_of_mem _ (List.mem_cons_of_mem _ (List.mem_cons_self ..)))))
        · exact k1 (rowSs _ _) (List.mem_cons_of_mem _ (List.mem_cons_of_mem _ (List.mem_cons_of_mem _ (List.mem_cons_of_mem _ (List.mem_cons_of_mem _ (List.mem_cons_self ..))))))
        · rfl
      have HR2 := Lib.hid hR
      have HOne := Lib.hid hone
      have hr1 : wr.rangeAt w.heap.size 0 [Value.string nb, y1, y2, y3, y4, y5, y6, .int .i64 rt] := by
        have := hR.range 0 8
        simpa using this
      have hth : wr.there (w.heap.size + 1) 0 8 := (hR.third).there 0 8 (by decide)
      clear hR hR6 e0 hone
      go_wp2_with (first
        | (refine wpList_load_mid rfl 44 (.tmp 1) rfl w.heap.size 0 rfl [Value.string nb, y1, y2, y3, y4, y5, y6, .int .i64 rt] _ hr1 Try.underlying44 rfl info_uv ?_)
        | (refine wpList_store_mid rfl 44 (.tmp 2) (.tmp 24) rfl (w.heap.size + 1) 0 #[Value.string nb, y1, y2, y3, y4, y5, y6, .int .i64 rt] rfl rfl hth info_uv (all_oneCell_toArray HOne.out) ?_))
      have h9 := HR2.out.third.setCells [Value.string nb, y1, y2, y3, y4, y5, y6, .int .i64 rt] 0
      rw [splice_all' ZL _ (by rw [HZ.out]; rfl)] at h9
      have hr9 := h9.range 0 8
      refine bodyPost_ret (v := .agg [Value.string nb, y1, y2, y3, y4, y5, y6, .int .i64 rt].toArray) (ret_cellG Try.results18 rfl (by simpa using hr9) Try.underlying44 rfl info_uv) rfl ?_
      refine ⟨⟨u.name, y1, y2, y3, y4, y5, y6, rt⟩, ?_, rfl, rfl, h9.tail.tail.tail.perm (List.reverse_perm _)⟩
      show Ending.returned (Value.agg [Value.string nb, y1, y2, y3, y4, y5, y6, .int .i64 rt].toArray) = Ending.returned (Value.agg [Value.string (toB u.name), y1, y2, y3, y4, y5, y6, .int .i64 rt].toArray)
      rw [HNB.out]
end Go.Proofs.Ytnjabanjgckeoaa
