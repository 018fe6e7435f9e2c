/- A need, a file as a part. -/
import Derived.Test.YtihnjhigemhknaaGreatDoorAr4
import Derived.Test.YtihnjhigemhknaaGreatDoorRd1
import Derived.Deep.RegionHeld3
namespace Go.Proofs.YtihnjhigemhknaaGreatDoor
open Go.RowKit
set_option linter.unusedVariables false
set_option linter.unusedSimpArgs false
set_option maxRecDepth 100000

def packN (n : NeedD) : List Int := sizedL (sb n.name) ++ (le4 n.way ++ sizedL (sb n.ver))
def packF (f : FileD) : List Int := sizedL (sb f.path) ++ (le4 (if f.config then 1 else 0) ++ sizedL f.data)
theorem Own.formA {W0 : Base} {w : World} {v : Value} {zs : List Int} {L : List Rw} (h : Own W0 w (rowU v zs :: L)) : ∃ a k c, v = .slice a k c := by
  obtain ⟨a, c, e, _⟩ := Own.sized (h := (show Own W0 w (⟨5, 1, v, zs.length, bs zs⟩ :: L) from h))
  exact ⟨a, _, c, e⟩
theorem box3_cells {W0 : Base} {w : World} {L : List Rw} {T : TypeId} {H : Nat} {x y z : Value} (h : Own W0 w L) (hm : (⟨T, 3, .slice (some ⟨H, 0, none⟩) 1 1, 1, [x, y, z]⟩ : Rw) ∈ L) : w.cell? ⟨H, 0, none⟩ = some x ∧ w.cell? ⟨H, 1, none⟩ = some y ∧ w.cell? ⟨H, 2, none⟩ = some z := by
  have h1 := h.only hm
  exact ⟨Own.cell (h := h1) 0 (by decide), Own.cell (h := h1) 1 (by decide), Own.cell (h := h1) 2 (by decide)⟩
/-- Three parts are packed. -/
theorem pack3_any {W0 : Base} {w : World} {va vb vc : Value} {a b c : List Int} {L : List Rw} (hO : Own W0 w (rowU vc c :: rowU vb b :: rowU va a :: L)) (ha : Byts a) (hb : Byts b) (hc : Byts c) (hl : (a ++ (b ++ c)).length ≤ 100000000) :
    Calls Tryz.prog 17 #[.slice (some ⟨w.heap.size, 0, none⟩) 3 3] (w.alloc (.cells #[va, vb, vc] 58)) (fun e w' => ∃ v, e = .returned v ∧ Own W0 w' (rowU v (a ++ (b ++ c)) :: L)) ∧
    Calls Tryz.prog 17 #[.slice (some ⟨w.heap.size, 0, none⟩) 3 3] (w.alloc (.cells #[va, vb, vc] 58)).drew (fun e w' => ∃ v, e = .returned v ∧ Own W0 w' (rowU v (a ++ (b ++ c)) :: L)) := by
  have h1 := (hO.only (r := rowU va a) (by simp)).by ha
  have h2 := (hO.only (r := rowU vb b) (by simp)).by hb
  have h3 := (hO.only (r := rowU vc c) (by simp)).by hc
  have hP : Parts (w.alloc (.cells #[va, vb, vc] 58)) (some ⟨w.heap.size, 0, none⟩) [(va, a), (vb, b), (vc, c)] := parts_list w 58 [(va, a), (vb, b), (vc, c)] (fun p hp => by
    simp only [List.mem_cons, List.not_mem_nil, or_false] at hp
    rcases hp with rfl | rfl | rfl
    · exact h1
    · exact h2
    · exact h3) w.heap.size rfl
  have he : allOf [(va, a), (vb, b), (vc, c)] = a ++ (b ++ c) := by simp [allOf]
  have hA := hO.alloc (.cells #[va, vb, vc] 58)
  refine ⟨?_, ?_⟩
  · have h := pack_any (some ⟨w.heap.size, 0, none⟩) 3 [(va, a), (vb, b), (vc, c)] (w.alloc (.cells #[va, vb, vc] 58)) hP (by show 3 ≤ maxLen; unfold maxLen; omega) (by rw [he]; omega)
    rw [he] at h
    refine h.mono ?_
    rintro e w' ⟨v, rfl, hO2⟩
    exact ⟨v, rfl, (hA.join hO2).swap.tail.swap.tail.swap.tail⟩
  · have h := pack_any (some ⟨w.heap.size, 0, none⟩) 3 [(va, a), (vb, b), (vc, c)] (w.alloc (.cells #[va, vb, vc] 58)).drew hP (by show 3 ≤ maxLen; unfold maxLen; omega) (by rw [he]; omega)
    rw [he] at h
    refine h.mono ?_
    rintro e w' ⟨v, rfl, hO2⟩
    exact ⟨v, rfl, (hA.drew.join hO2).swap.tail.swap.tail.swap.tail⟩
set_option maxHeartbeats 8000000 in
theorem packneed_any (n : NeedD) (w : World) (h0 : 0 ≤ n.way) (h1 : n.way < 4294967296) (hp : n.name.size ≤ 1000000) (hq : n.ver.size ≤ 1000000) :
    Calls Tryz.prog 38 #[.agg #[.string n.name, .int .i64 n.way, .string n.ver]] w fun e w' => ∃ v, e = .returned v ∧ Own w w' [rowU v (packN n)] := by
  obtain ⟨p, κ, q⟩ := n
  dsimp only at *
  have lp : p.size < 4294967296 := by omega
  have lq : q.size < 4294967296 := by omega
  have b1 : Byts (sizedL (sb p)) := sizedL_byts _ (sb_byts _) (by rw [sb_length]; exact lp)
  have b2 : Byts (le4 κ) := le4_byts _ h0 h1
  have b3 : Byts (sizedL (sb q)) := sizedL_byts _ (sb_byts _) (by rw [sb_length]; exact lq)
  have hlen : (sizedL (sb p) ++ (le4 κ ++ sizedL (sb q))).length ≤ 100000000 := by
    simp only [List.length_append, sizedL_length, sb_length]
    have : (le4 κ).length = 4 := rfl
    omega
  have HO := Lib.hid ((Own.start w).box3 (.string p) (.int .i64 κ) (.string q) 53)
  have HG := Lib.hid (show packN ⟨p, κ, q⟩ = sizedL (sb p) ++ (le4 κ ++ sizedL (sb q)) from rfl)
  simp only [HG.out]
  clear HG hp hq
  go_enter Tryz.func38, Tryz.ntmps38
  go_wp2_with fail
  generalize hH : w.heap.size = H at *
  clear hH
  generalize w.alloc (.cells #[.string p, .int .i64 κ, .string q] 53) = w1 at *
  have s0 := box3_cells HO.out (List.mem_cons_self ..)
  obtain ⟨q0, q1, q2⟩ := id s0
  go_region_held3 (fun w' : World => w'.cell? ⟨H, 0, none⟩ = some (.string p) ∧ w'.cell? ⟨H, 1, none⟩ = some (.int .i64 κ) ∧ w'.cell? ⟨H, 2, none⟩ = some (.string q)) (first | exact s0 | exact sa | exact sbb | exact sc | exact sd | exact se | go_keep) (first
    | (go_at_call 36; refine (text_any p _ lp).mono ?_; rintro e wa ⟨va, rfl, hOa⟩; obtain ⟨aa, na, ca, rfl⟩ := hOa.formA; have HOa := Lib.hid (show Own w wa (rowU (.slice aa na ca) (sizedL (sb p)) :: ⟨53, 3, .slice (some ⟨H, 0, none⟩) 1 1, 1, [.string p, .int .i64 κ, .string q]⟩ :: []) from (by first | exact HO.out.drew.join hOa | exact HO.out.join hOa)); have sa := box3_cells HOa.out (by simp : (⟨53, 3, .slice (some ⟨H, 0, none⟩) 1 1, 1, [.string p, .int .i64 κ, .string q]⟩ : Rw) ∈ _); obtain ⟨qa0, qa1, qa2⟩ := id sa; clear hOa)
    | (go_at_call 43; refine (num_any κ _ h0 h1).mono ?_; rintro e wb ⟨vb, rfl, hOb⟩; obtain ⟨ab, nb, cb, rfl⟩ := hOb.formA; have HOb := Lib.hid (show Own w wb (rowU (.slice ab nb cb) (le4 κ) :: rowU (.slice aa na ca) (sizedL (sb p)) :: ⟨53, 3, .slice (some ⟨H, 0, none⟩) 1 1, 1, [.string p, .int .i64 κ, .string q]⟩ :: []) from (by first | exact HOa.out.drew.join hOb | exact HOa.out.join hOb)); have sbb := box3_cells HOb.out (by simp : (⟨53, 3, .slice (some ⟨H, 0, none⟩) 1 1, 1, [.string p, .int .i64 κ, .string q]⟩ : Rw) ∈ _); obtain ⟨qb0, qb1, qb2⟩ := id sbb; clear hOb)
    | (go_at_call 36; refine (text_any q _ lq).mono ?_; rintro e wc ⟨vc, rfl, hOc⟩; obtain ⟨ac, nc, cc, rfl⟩ := hOc.formA; have HOc := Lib.hid (show Own w wc (rowU (.slice ac nc cc) (sizedL (sb q)) :: rowU (.slice ab nb cb) (le4 κ) :: rowU (.slice aa na ca) (sizedL (sb p)) :: ⟨53, 3, .slice (some ⟨H, 0, none⟩) 1 1, 1, [.string p, .int .i64 κ, .string q]⟩ :: []) from (by first | exact HOb.out.drew.join hOc | exact HOb.out.join hOc)); have sc := box3_cells HOc.out (by simp : (⟨53, 3, .slice (some ⟨H, 0, none⟩) 1 1, 1, [.string p, .int .i64 κ, .string q]⟩ : Rw) ∈ _); obtain ⟨qc0, qc1, qc2⟩ := id sc; clear hOc; obtain ⟨hk1, hk2⟩ := pack3_any HOc.out b1 b2 b3 hlen; have hal := HOc.out.alloc (.cells #[.slice aa na ca, .slice ab nb cb, .slice ac nc cc] 58); have sd := box3_cells hal (by simp : (⟨53, 3, .slice (some ⟨H, 0, none⟩) 1 1, 1, [.string p, .int .i64 κ, .string q]⟩ : Rw) ∈ _); clear hal)
    | (go_at_call 17; (first | refine hk1.mono ?_ | refine hk2.mono ?_); rintro e w9 ⟨v9, rfl, hO9⟩; obtain ⟨a9, n9, c9, rfl⟩ := hO9.formA; have HO9 := Lib.hid hO9; have se := box3_cells hO9 (by simp : (⟨53, 3, .slice (some ⟨H, 0, none⟩) 1 1, 1, [.string p, .int .i64 κ, .string q]⟩ : Rw) ∈ _); clear hO9))
  go_wp2_with fail
  go_ret
  exact ⟨_, rfl, HO9.out.only (by simp)⟩
set_option maxHeartbeats 8000000 in
theorem packfile_any (f : FileD) (w : World) (hp : f.path.size ≤ 1000000) (hd : f.data.length ≤ 1000000) (hB : By w (.slice f.a f.data.length f.c) f.data) :
    Calls Tryz.prog 41 #[.agg #[.string f.path, .bool f.config, .slice f.a f.data.length f.c]] w fun e w' => ∃ v, e = .returned v ∧ Own w w' [rowU v (packF f)] := by
  obtain ⟨p, cf, da, dc, d⟩ := f
  dsimp only at *
  have lp : p.size < 4294967296 := by omega
  have ld : d.length < 4294967296 := by omega
  have b1 : Byts (sizedL (sb p)) := sizedL_byts _ (sb_byts _) (by rw [sb_length]; exact lp)
  have b3 : Byts (sizedL d) := sizedL_byts _ hB.2.1 (by omega)
  have HBy := Lib.hid hB
  have HO := Lib.hid ((Own.start w).box3 (.string p) (.bool cf) (.slice da d.length dc) 51)
  have HG := Lib.hid (show packF ⟨p, cf, da, dc, d⟩ = sizedL (sb p) ++ (le4 (if cf then 1 else 0) ++ sizedL d) from rfl)
  simp only [HG.out]
  clear HG
  cases cf with
  | true =>
    simp only [if_true]
    have b2 : Byts (le4 1) := le4_byts _ (by decide) (by decide)
    have hlen : (sizedL (sb p) ++ (le4 1 ++ sizedL d)).length ≤ 100000000 := by
      simp only [List.length_append, sizedL_length, sb_length]
      have : (le4 1).length = 4 := rfl
      omega
    clear hp hd
    go_enter Tryz.func41, Tryz.ntmps41
    go_wp2_with fail
    generalize hH : w.heap.size = H at *
    clear hH
    generalize w.alloc (.cells #[.string p, .bool true, .slice da d.length dc] 51) = w1 at *
    have s0 := box3_cells HO.out (List.mem_cons_self ..)
    obtain ⟨q0, q1, q2⟩ := id s0
    go_region_held3 (fun w' : World => w'.cell? ⟨H, 0, none⟩ = some (.string p) ∧ w'.cell? ⟨H, 1, none⟩ = some (.bool true) ∧ w'.cell? ⟨H, 2, none⟩ = some (.slice da d.length dc)) (first | exact s0 | exact sa | exact sbb | exact sc | exact sd | exact se | go_keep) (first
      | (go_at_call 36; refine (text_any p _ lp).mono ?_; rintro e wa ⟨va, rfl, hOa⟩; obtain ⟨aa, na, ca, rfl⟩ := hOa.formA; have HOa := Lib.hid (show Own w wa (rowU (.slice aa na ca) (sizedL (sb p)) :: ⟨51, 3, .slice (some ⟨H, 0, none⟩) 1 1, 1, [.string p, .bool true, .slice da d.length dc]⟩ :: []) from (by first | exact HO.out.drew.join hOa | exact HO.out.join hOa)); have sa := box3_cells HOa.out (by simp : (⟨51, 3, .slice (some ⟨H, 0, none⟩) 1 1, 1, [.string p, .bool true, .slice da d.length dc]⟩ : Rw) ∈ _); obtain ⟨qa0, qa1, qa2⟩ := id sa; clear hOa)
      | (go_at_call 43; refine (num_any 1 _ (by decide) (by decide)).mono ?_; rintro e wb ⟨vb, rfl, hOb⟩; obtain ⟨ab, nb, cb, rfl⟩ := hOb.formA; have HOb := Lib.hid (show Own w wb (rowU (.slice ab nb cb) (le4 1) :: rowU (.slice aa na ca) (sizedL (sb p)) :: ⟨51, 3, .slice (some ⟨H, 0, none⟩) 1 1, 1, [.string p, .bool true, .slice da d.length dc]⟩ :: []) from (by first | exact HOa.out.drew.join hOb | exact HOa.out.join hOb)); have sbb := box3_cells HOb.out (by simp : (⟨51, 3, .slice (some ⟨H, 0, none⟩) 1 1, 1, [.string p, .bool true, .slice da d.length dc]⟩ : Rw) ∈ _); obtain ⟨qb0, qb1, qb2⟩ := id sbb; clear hOb)
      | (go_at_call 64; refine (raw_any (.slice da d.length dc) d _ (HBy.out.later (by first | exact HOb.out.below | exact HOb.out.below.drew)) ld).mono ?_; rintro e wc ⟨vc, rfl, hOc⟩; obtain ⟨ac, nc, cc, rfl⟩ := hOc.formA; have HOc := Lib.hid (show Own w wc (rowU (.slice ac nc cc) (sizedL d) :: rowU (.slice ab nb cb) (le4 1) :: rowU (.slice aa na ca) (sizedL (sb p)) :: ⟨51, 3, .slice (some ⟨H, 0, none⟩) 1 1, 1, [.string p, .bool true, .slice da d.length dc]⟩ :: []) from (by first | exact HOb.out.drew.join hOc | exact HOb.out.join hOc)); have sc := box3_cells HOc.out (by simp : (⟨51, 3, .slice (some ⟨H, 0, none⟩) 1 1, 1, [.string p, .bool true, .slice da d.length dc]⟩ : Rw) ∈ _); obtain ⟨qc0, qc1, qc2⟩ := id sc; clear hOc; obtain ⟨hk1, hk2⟩ := pack3_any HOc.out b1 b2 b3 hlen; have hal := HOc.out.alloc (.cells #[.slice aa na ca, .slice ab nb cb, .slice ac nc cc] 58); have sd := box3_cells hal (by simp : (⟨51, 3, .slice (some ⟨H, 0, none⟩) 1 1, 1, [.string p, .bool true, .slice da d.length dc]⟩ : Rw) ∈ _); clear hal)
      | (go_at_call 17; (first | refine hk1.mono ?_ | refine hk2.mono ?_); rintro e w9 ⟨v9, rfl, hO9⟩; obtain ⟨a9, n9, c9, rfl⟩ := hO9.formA; have HO9 := Lib.hid hO9; have se := box3_cells hO9 (by simp : (⟨51, 3, .slice (some ⟨H, 0, none⟩) 1 1, 1, [.string p, .bool true, .slice da d.length dc]⟩ : Rw) ∈ _); clear hO9))

    go_wp2_with fail
    go_ret
    exact ⟨_, rfl, HO9.out.only (by simp)⟩
  | false =>
    simp only [Bool.false_eq_true, if_false]
    have b2 : Byts (le4 0) := le4_byts _ (by decide) (by decide)
    have hlen : (sizedL (sb p) ++ (le4 0 ++ sizedL d)).length ≤ 100000000 := by
      simp only [List.length_append, sizedL_length, sb_length]
      have : (le4 0).length = 4 := rfl
      omega
    clear hp hd
    go_enter Tryz.func41, Tryz.ntmps41
    go_wp2_with fail
    generalize hH : w.heap.size = H at *
    clear hH
    generalize w.alloc (.cells #[.string p, .bool false, .slice da d.length dc] 51) = w1 at *
    have s0 := box3_cells HO.out (List.mem_cons_self ..)
    obtain ⟨q0, q1, q2⟩ := id s0
    go_region_held3 (fun w' : World => w'.cell? ⟨H, 0, none⟩ = some (.string p) ∧ w'.cell? ⟨H, 1, none⟩ = some (.bool false) ∧ w'.cell? ⟨H, 2, none⟩ = some (.slice da d.length dc)) (first | exact s0 | exact sa | exact sbb | exact sc | exact sd | exact se | go_keep) (first
      | (go_at_call 36; refine (text_any p _ lp).mono ?_; rintro e wa ⟨va, rfl, hOa⟩; obtain ⟨aa, na, ca, rfl⟩ := hOa.formA; have HOa := Lib.hid (show Own w wa (rowU (.slice aa na ca) (sizedL (sb p)) :: ⟨51, 3, .slice (some ⟨H, 0, none⟩) 1 1, 1, [.string p, .bool false, .slice da d.length dc]⟩ :: []) from (by first | exact HO.out.drew.join hOa | exact HO.out.join hOa)); have sa := box3_cells HOa.out (by simp : (⟨51, 3, .slice (some ⟨H, 0, none⟩) 1 1, 1, [.string p, .bool false, .slice da d.length dc]⟩ : Rw) ∈ _); obtain ⟨qa0, qa1, qa2⟩ := id sa; clear hOa)
      | (go_at_call 43; refine (num_any 0 _ (by decide) (by decide)).mono ?_; rintro e wb ⟨vb, rfl, hOb⟩; obtain ⟨ab, nb, cb, rfl⟩ := hOb.formA; have HOb := Lib.hid (show Own w wb (rowU (.slice ab nb cb) (le4 0) :: rowU (.slice aa na ca) (sizedL (sb p)) :: ⟨51, 3, .slice (some ⟨H, 0, none⟩) 1 1, 1, [.string p, .bool false, .slice da d.length dc]⟩ :: []) from (by first | exact HOa.out.drew.join hOb | exact HOa.out.join hOb)); have sbb := box3_cells HOb.out (by simp : (⟨51, 3, .slice (some ⟨H, 0, none⟩) 1 1, 1, [.string p, .bool false, .slice da d.length dc]⟩ : Rw) ∈ _); obtain ⟨qb0, qb1, qb2⟩ := id sbb; clear hOb)
      | (go_at_call 64; refine (raw_any (.slice da d.length dc) d _ (HBy.out.later (by first | exact HOb.out.below | exact HOb.out.below.drew)) ld).mono ?_; rintro e wc ⟨vc, rfl, hOc⟩; obtain ⟨ac, nc, cc, rfl⟩ := hOc.formA; have HOc := Lib.hid (show Own w wc (rowU (.slice ac nc cc) (sizedL d) :: rowU (.slice ab nb cb) (le4 0) :: rowU (.slice aa na ca) (sizedL (sb p)) :: ⟨51, 3, .slice (some ⟨H, 0, none⟩) 1 1, 1, [.string p, .bool false, .slice da d.length dc]⟩ :: []) from (by first | exact HOb.out.drew.join hOc | exact HOb.out.join hOc)); have sc := box3_cells HOc.out (by simp : (⟨51, 3, .slice (some ⟨H, 0, none⟩) 1 1, 1, [.string p, .bool false, .slice da d.length dc]⟩ : Rw) ∈ _); obtain ⟨qc0, qc1, qc2⟩ := id sc; clear hOc; obtain ⟨hk1, hk2⟩ := pack3_any HOc.out b1 b2 b3 hlen; have hal := HOc.out.alloc (.cells #[.slice aa na ca, .slice ab nb cb, .slice ac nc cc] 58); have sd := box3_cells hal (by simp : (⟨51, 3, .slice (some ⟨H, 0, none⟩) 1 1, 1, [.string p, .bool false, .slice da d.length dc]⟩ : Rw) ∈ _); clear hal)
      | (go_at_call 17; (first | refine hk1.mono ?_ | refine hk2.mono ?_); rintro e w9 ⟨v9, rfl, hO9⟩; obtain ⟨a9, n9, c9, rfl⟩ := hO9.formA; have HO9 := Lib.hid hO9; have se := box3_cells hO9 (by simp : (⟨51, 3, .slice (some ⟨H, 0, none⟩) 1 1, 1, [.string p, .bool false, .slice da d.length dc]⟩ : Rw) ∈ _); clear hO9))

    go_wp2_with fail
    go_ret
    exact ⟨_, rfl, HO9.out.only (by simp)⟩
end Go.Proofs.YtihnjhigemhknaaGreatDoor
