/- The text that says a unit: the call. -/
import Derived.Test.YtmnohaefklglfaaDoorUn12
namespace Go.Proofs.YtmnohaefklglfaaDoor
open Go.RowKit
set_option linter.unusedVariables false
set_option linter.unusedSimpArgs false
set_option maxRecDepth 100000

theorem take_snoc {α : Type} {l : List α} {j : Nat} {x : α} (h : l[j]? = some x) : l.take (j + 1) = l.take j ++ [x] := by
  obtain ⟨hl, e⟩ := List.getElem?_eq_some_iff.1 h
  rw [List.take_succ_eq_append_getElem hl, e]
theorem obj_map {ub : Nat} {o : Obj} (h : MapU ub o) : ∀ c fz, o ≠ .cells c tBy fz := by
  obtain ⟨m, ⟨es, cl, rfl, _⟩, _⟩ := h
  intro c fz e
  cases e
set_option maxHeartbeats 8000000 in
theorem text_any (w : World) (name : List UInt8) (v0 v1 v2 v3 v4 v5 : Value) (l0 l1 l2 l3 l4 l5 : List (List UInt8)) (r : Int) (dg : List UInt8) (s0 : Sts w v0 l0) (s1 : Sts w v1 l1) (s2 : Sts w v2 l2) (s3 : Sts w v3 l3) (s4 : Sts w v4 l4) (s5 : Sts w v5 l5)
    (hname : name.length ≤ 1000) (hls : ∀ l ∈ [l0, l1, l2, l3, l4, l5], l.length ≤ 12 ∧ ∀ y ∈ l, y.length ≤ 1000) (hdg : dg.length ≤ 1000)
    (hit : ∀ W, Below w.heap.size w W → Calls Tryd.prog 22 #[.int .i64 r] W fun e W' => e = .returned (.string (toB dg)) ∧ Below W.heap.size W W') :
    Calls Tryd.prog 11 #[.agg #[.string (toB name), v0, v1, v2, v3, v4, v5, .int .i64 r]] w fun e w' => e = .returned (.string (toB (textT name [l0, l1, l2, l3, l4, l5] dg))) ∧ Below w.heap.size w w' := by
  have rows : ∀ j, j < 6 → ∃ x l v, wordsU[j]? = some x ∧ [l0, l1, l2, l3, l4, l5][j]? = some l ∧ wordAt x = some j ∧ (#[.string ⟨#[102, 105, 108, 101]⟩, .string ⟨#[97, 102, 116, 101, 114]⟩, .string ⟨#[98, 101, 102, 111, 114, 101]⟩, .string ⟨#[114, 101, 113, 117, 105, 114, 101, 115]⟩, .string ⟨#[119, 97, 110, 116, 115]⟩, .string ⟨#[112, 97, 114, 116, 111, 102]⟩] : Array Value)[j]? = some (.string (toB x)) ∧
      (#[.string (toB name), v0, v1, v2, v3, v4, v5, .int .i64 r] : Array Value)[1 + j]? = some v ∧ Sts w v l ∧ x.length ≤ 8 ∧ l.length ≤ 12 ∧ ∀ y ∈ l, y.length ≤ 1000 := fun j hj => by
    match j, hj with
    | 0, _ => exact ⟨_, _, _, rfl, rfl, rfl, rfl, rfl, s0, by decide, hls l0 (by simp)⟩
    | 1, _ => exact ⟨_, _, _, rfl, rfl, rfl, rfl, rfl, s1, by decide, hls l1 (by simp)⟩
    | 2, _ => exact ⟨_, _, _, rfl, rfl, rfl, rfl, rfl, s2, by decide, hls l2 (by simp)⟩
    | 3, _ => exact ⟨_, _, _, rfl, rfl, rfl, rfl, rfl, s3, by decide, hls l3 (by simp)⟩
    | 4, _ => exact ⟨_, _, _, rfl, rfl, rfl, rfl, rfl, s4, by decide, hls l4 (by simp)⟩
    | 5, _ => exact ⟨_, _, _, rfl, rfl, rfl, rfl, rfl, s5, by decide, hls l5 (by simp)⟩
  have lens : ∀ j, (lineT wUnit name ++ bodyT (wordsU.take j) ([l0, l1, l2, l3, l4, l5].take j)).length ≤ 100000 := fun j => by
    have h1 := bodyT_len (wordsU.take j) ([l0, l1, l2, l3, l4, l5].take j) (fun x hx => by
      have hall : ∀ x ∈ wordsU, x.length ≤ 8 := by decide
      exact hall x (List.mem_of_mem_take hx)) fun l hl => hls l (List.mem_of_mem_take hl)
    have h2 : (wordsU.take j).length ≤ 6 := by rw [List.length_take]; exact Nat.min_le_right _ _
    have h3 : (lineT wUnit name).length = 4 + name.length + 2 := by simp [lineT, wUnit]; omega
    rw [List.length_append, h3]
    have h4 : (wordsU.take j).length * 12120 ≤ 6 * 12120 := Nat.mul_le_mul_right _ h2
    omega
  have Rows := Lib.hid rows
  have Lens := Lib.hid lens
  have Hit := Lib.hid hit
  clear rows lens hit s0 s1 s2 s3 s4 s5 hls
  obtain ⟨W2, hW2⟩ : ∃ W2, W2 = (w.alloc (.cells #[.string (toB name), v0, v1, v2, v3, v4, v5, .int .i64 r] 25)).alloc (.cells #[.pointer none, .slice none 0 0] 59) := ⟨_, rfl⟩
  have hsz2 : W2.heap.size = w.heap.size + 1 + 1 := by rw [hW2]; simp
  have hbd : Lib.IsBuilderF tBd tBy (w.heap.size + 1) (w.heap.size + 1) (Lib.byteCells []) W2 := by
    have := fresh_bd (w.alloc (.cells #[.string (toB name), v0, v1, v2, v3, v4, v5, .int .i64 r] 25))
    rw [World.size_alloc, ← hW2] at this
    exact this
  have hu2 : W2.heap[w.heap.size]? = some (.cells #[.string (toB name), v0, v1, v2, v3, v4, v5, .int .i64 r] 25) := by
    rw [hW2, Below.heap_alloc _ _ _ (by simp)]; exact World.alloc_heap_new w _
  have hb2 : Below w.heap.size w W2 := by rw [hW2]; exact ((Below.refl _ w).alloc (Nat.le_refl _) _).alloc (by simp) _
  have hsay : Calls Tryd.prog 20 #[.string ⟨#[117, 110, 105, 116]⟩, .string (toB name), .pointer (some ⟨w.heap.size + 1, 0, none⟩)] W2 fun e w' => e = .returned (.tuple #[]) ∧ Lib.IsBuilderF tBd tBy (w.heap.size + 1) (w.heap.size + 1) (Lib.byteCells (lineT wUnit name)) w' ∧ Below (w.heap.size + 1) W2 w' ∧ Lib.OthersKept tBy (some (w.heap.size + 1)) W2 w' :=
    say_any (w.heap.size + 1) (w.heap.size + 1) [] wUnit name W2 hbd (by simp [wUnit]; omega) (by omega)
  go_enter Tryd.func11, Tryd.ntmps11
  go_wp2_with fail
  rw [← hW2]
  refine hsay.mono ?_
  rintro e w3 ⟨rfl, q1, q2, q3⟩
  have hu3 : w3.heap[w.heap.size]? = some (.cells #[.string (toB name), v0, v1, v2, v3, v4, v5, .int .i64 r] 25) := q3 _ _ hu2 (fun e => by have := Option.some.inj e; omega) (fun c fz e => by injection e with _ e2; exact absurd e2 (by decide))
  have hb3 : Below w.heap.size w w3 := hb2.trans (q2.mono (by omega))
  have hsz3 : w.heap.size + 1 + 1 ≤ w3.heap.size := by have := q2.size; omega
  have hli := lists_any w3 w.heap.size
  clear q2 q3 hu2 hb2 hbd hsay hW2 hsz2
  go_wp2_with fail
  refine hli.mono ?_
  rintro e w4 ⟨rfl, ⟨om, ho, hmu⟩, hb4⟩
  obtain ⟨W5, hW5⟩ : ∃ W5, W5 = w4.alloc (.cells #[.string ⟨#[102, 105, 108, 101]⟩, .string ⟨#[97, 102, 116, 101, 114]⟩, .string ⟨#[98, 101, 102, 111, 114, 101]⟩, .string ⟨#[114, 101, 113, 117, 105, 114, 101, 115]⟩, .string ⟨#[119, 97, 110, 116, 115]⟩, .string ⟨#[112, 97, 114, 116, 111, 102]⟩] 9) := ⟨_, rfl⟩
  have hlt4 : w3.heap.size < w4.heap.size := lt_of_heap ho
  have hb5 : Below w4.heap.size w4 W5 := by rw [hW5]; exact (Below.refl _ _).alloc (Nat.le_refl _) _
  have hT := (show TxSt w w.heap.size (w.heap.size + 1) w3.heap.size w4.heap.size _ om (lineT wUnit name) W5 from
    ⟨IsBuilderF_later (IsBuilderF_later q1 hb4) hb5, (hb3.trans (hb4.mono (by omega))).trans (hb5.mono (by omega)), by omega, ((hb5.block _ (by omega)).trans (hb4.block _ (by omega))).trans hu3, (hb5.block _ hlt4).trans ho, by rw [hW5]; exact World.alloc_heap_new w4 _⟩)
  have HT := Lib.hid hT
  have hr4 : w.heap.size + 1 < w3.heap.size ∧ w3.heap.size < w4.heap.size := ⟨by omega, hlt4⟩
  generalize w3.heap.size = mb at *
  obtain ⟨rb, hrb⟩ : ∃ rb, w4.heap.size = rb := ⟨_, rfl⟩
  rw [hrb] at HT hr4
  clear hT q1 hb3 hb4 hb5 hli ho hu3 hsz3 hlt4
  rw [hW5] at HT
  clear hW5
  go_wp2_with fail
  go_loopw [18] (fun i wr => ∃ j : Nat, j ≤ 6 ∧ i = .int .i64 j ∧ TxSt w w.heap.size (w.heap.size + 1) mb rb #[.string (toB name), v0, v1, v2, v3, v4, v5, .int .i64 r] om (lineT wUnit name ++ bodyT (wordsU.take j) ([l0, l1, l2, l3, l4, l5].take j)) wr) (fun i _ => 6 - (intOf i).toNat)
  case atStart => exact ⟨0, Nat.zero_le _, rfl, by rw [List.take_zero, List.take_zero]; simpa [bodyT] using HT.out⟩
  case round =>
    obtain ⟨j, hj, rfl, hst⟩ := hrel
    by_cases hj6 : j < 6
    · obtain ⟨x, l, v, e1, e2, hx, hc, hv, hsts, hx8, hl12, hly⟩ := Rows.out j hj6
      have hxc : wr.cell? ⟨rb, j, none⟩ = some (.string (toB x)) := by rw [cell_at hst.r j]; exact hc
      have hvc : wr.cell? ⟨w.heap.size, 1 + j, none⟩ = some v := by rw [cell_at hst.u (1 + j)]; exact hv
      have hfd := hst.find hmu j x hx
      obtain ⟨a, c, hav, _, _, hcs⟩ := hsts.later hst.below
      subst hav
      have hstep : lineT wUnit name ++ bodyT (wordsU.take (j + 1)) ([l0, l1, l2, l3, l4, l5].take (j + 1)) = lineT wUnit name ++ bodyT (wordsU.take j) ([l0, l1, l2, l3, l4, l5].take j) ++ linesW x l := by
        rw [take_snoc e1, take_snoc e2, bodyT_snoc _ _ _ _ (by simp [wordsU]), List.append_assoc]
      have hlen := Lens.out j
      have Hstep := Lib.hid hstep
      have Hst := Lib.hid hst
      have Hcs := Lib.hid hsts
      generalize lineT wUnit name ++ bodyT (wordsU.take j) ([l0, l1, l2, l3, l4, l5].take j) = done at *
      clear hst hcs hc hv hx hsts hstep e1 e2
      have hdec : decide ((j : Int) < 6) = true := decide_eq_true (by omega)
      go_wp2_with fail
      try clear hdec
      go_loopw [28] (fun i wq => ∃ k : Nat, k ≤ l.length ∧ i = .int .i64 k ∧ TxSt w w.heap.size (w.heap.size + 1) mb rb #[.string (toB name), v0, v1, v2, v3, v4, v5, .int .i64 r] om (done ++ linesW x (l.take k)) wq) (fun i _ => l.length - (intOf i).toNat)
      case atStart => exact ⟨0, Nat.zero_le _, rfl, by rw [List.take_zero]; simpa [linesW] using Hst.out⟩
      case round =>
        rename_i wq
        obtain ⟨k, hk, rfl, hq⟩ := hrel
        by_cases hkl : k < l.length
        · obtain ⟨a', c', e', _, _, hcs⟩ := Hcs.out.later hq.below
          injection e' with e1 e2 e3
          subst e1 e3
          obtain ⟨g, o, rfl, _, hcell⟩ := hcs (by omega)
          have hkc := hcell k hkl
          have hly2 := hly l[k] (List.getElem_mem hkl)
          have htk : l.take (k + 1) = l.take k ++ [l[k]] := List.take_succ_eq_append_getElem hkl
          have hsn : done ++ linesW x (l.take (k + 1)) = done ++ linesW x (l.take k) ++ lineT x l[k] := by rw [htk, linesW_snoc, List.append_assoc]
          have hll : (done ++ linesW x (l.take k)).length ≤ 200000 := by
            have h1 := linesW_len hx8 (l := l.take k) fun y hy => hly y (List.mem_of_mem_take hy)
            have h2 : (l.take k).length ≤ 12 := by rw [List.length_take]; omega
            have h3 : (l.take k).length * 1010 ≤ 12 * 1010 := Nat.mul_le_mul_right _ h2
            rw [List.length_append]; omega
          have hsay := hq.say (obj_map hmu) ⟨by omega, by omega, by omega⟩ x l[k] (by omega)
          rw [← hsn] at hsay
          clear hq hcs hcell htk hsn hll hly2
          generalize l[k] = y at *
          go_wp2_with fail
          refine hsay.mono ?_
          rintro e wz ⟨rfl, hz⟩
          have HZ := Lib.hid hz
          clear hz hsay hkc
          go_wp2_with fail
          go_roundw
          case rel => exact ⟨k + 1, by omega, by go_num, HZ.out⟩
          case measure => simp [intOf]; omega
        · obtain rfl : k = l.length := by omega
          rw [List.take_length, ← Hstep.out] at hq
          have HQ := Lib.hid hq
          have hnl : ¬ (l.length : Int) < (l.length : Int) := Int.lt_irrefl _
          clear hq
          go_wp2_with fail
          go_roundw
          case rel => exact ⟨j + 1, by omega, by go_num, HQ.out⟩
          case measure => simp [intOf]; omega
    · obtain rfl : j = 6 := by omega
      have hst6 : TxSt w w.heap.size (w.heap.size + 1) mb rb #[.string (toB name), v0, v1, v2, v3, v4, v5, .int .i64 r] om (lineT wUnit name ++ bodyT wordsU [l0, l1, l2, l3, l4, l5]) wr := hst
      have hlen : (lineT wUnit name ++ bodyT wordsU [l0, l1, l2, l3, l4, l5]).length ≤ 100000 := Lens.out 6
      have hrc : wr.cell? ⟨w.heap.size, 7, none⟩ = some (.int .i64 r) := cell_at hst.u 7
      have hit := Hit.out wr hst.below
      have HT6 := Lib.hid hst6
      clear hst hst6
      go_wp2_with fail
      refine hit.mono ?_
      rintro e w6 ⟨rfl, hb6⟩
      have hT6 : TxSt w w.heap.size (w.heap.size + 1) mb rb #[.string (toB name), v0, v1, v2, v3, v4, v5, .int .i64 r] om (lineT wUnit name ++ bodyT wordsU [l0, l1, l2, l3, l4, l5]) w6 := by
        obtain ⟨t1, t2, t3, t4, t5, t6⟩ := HT6.out
        exact ⟨IsBuilderF_later t1 hb6, t2.trans (hb6.mono t2.size), t3, (hb6.block _ (lt_of_heap t4)).trans t4, (hb6.block _ (lt_of_heap t5)).trans t5, (hb6.block _ (lt_of_heap t6)).trans t6⟩
      have hsay : Calls Tryd.prog 20 #[.string ⟨#[114, 101, 116, 114, 121]⟩, .string (toB dg), .pointer (some ⟨w.heap.size + 1, 0, none⟩)] w6 _ := hT6.say (obj_map hmu) ⟨by omega, by omega, by omega⟩ wRetry dg (by have : wRetry.length = 5 := rfl; omega)
      clear hit hT6 hb6
      go_wp2_with fail
      refine hsay.mono ?_
      rintro e w7 ⟨rfl, h7⟩
      have hbw : w.heap.size + 1 ≤ w7.heap.size := by
        rcases h7.bd with ⟨_, v, hv, _⟩ | ⟨_, v, hv, _⟩ <;> exact Nat.le_of_lt (lt_of_heap hv)
      have hstr := Tryd.Builder_String_any_k (w.heap.size + 1) (w.heap.size + 1) _ w7 h7.bd hbw
      have H7 := Lib.hid h7.below
      rw [List.append_assoc] at hstr
      have hstr2 : Calls Tryd.prog 23 #[.pointer (some ⟨w.heap.size + 1, 0, none⟩)] w7 fun e w' => e = .returned (.string (toB (textT name [l0, l1, l2, l3, l4, l5] dg))) ∧ Below w.heap.size w w' := hstr.mono fun e w' hd => ⟨hd.1, H7.out.trans (hd.2.2.1.mono (by omega))⟩
      clear hsay h7 hstr
      go_wp2_with fail
      refine hstr2.mono ?_
      rintro e w8 ⟨rfl, hb8⟩
      go_wp2_with fail
      go_ret
      exact ⟨rfl, hb8⟩
end Go.Proofs.YtmnohaefklglfaaDoor
