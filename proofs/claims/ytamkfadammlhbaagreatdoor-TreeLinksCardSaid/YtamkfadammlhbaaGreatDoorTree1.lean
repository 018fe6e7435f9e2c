/- Calls that read a tree: dir, loose, Find, stands, Dir, Nodes. -/
import Derived.Test.YtamkfadammlhbaaGreatDoorTree0
namespace Go.Proofs.YtamkfadammlhbaaGreatDoor
open Go.RowKit
open Go.ChangeMaps (setBlock)
set_option linter.unusedVariables false
set_option linter.unusedSimpArgs false
set_option maxRecDepth 100000

theorem NodeIn.at0 {w : World} {D : Value → List Int → Prop} {n : Nd} (H : NodeIn (inW w) D n) : w.cell? ⟨n.b, 0, none⟩ = some (.map n.k) ∧ w.cell? ⟨n.b, 1, none⟩ = some n.dv ∧ w.cell? ⟨n.b, 2, none⟩ = some (.int .i64 n.places) := by
  have h := H.cells
  exact ⟨by rw [cell_at h 0]; rfl, by rw [cell_at h 1]; rfl, by rw [cell_at h 2]; rfl⟩
theorem TreeIn.at0 {w : World} {D : Value → List Int → Prop} {t : Nat} {T : Tr} (H : TreeIn (inW w) D t T) : w.cell? ⟨t, 0, none⟩ = some (.int .i64 T.quota) ∧ w.cell? ⟨t, 1, none⟩ = some (.int .i64 T.next) ∧ w.cell? ⟨t, 2, none⟩ = some (.map (some T.bm)) := by
  have h := H.cells
  exact ⟨by rw [cell_at h 0]; rfl, by rw [cell_at h 1]; rfl, by rw [cell_at h 2]; rfl⟩
theorem neq_map (k : Option Nat) (w : World) : (binOp BinOp.neq 84 (.map k) (.map none)).run Tryz.prog w = .ok (.bool k.isSome) w := by
  cases k <;> kernel_rfl
theorem dir_cell {w : World} {b : Nat} {k : Option Nat} (hc : w.cell? ⟨b, 0, none⟩ = some (.map k)) : Calls Tryz.prog 58 #[.pointer (some ⟨b, 0, none⟩)] w fun e w' => e = .returned (.bool k.isSome) ∧ w = w' := by
  cases k with
  | none =>
    have hq := neq_map none w
    go_enter Tryz.func58, Tryz.ntmps58
    go_wp2
    go_ret
    exact ⟨rfl, rfl⟩
  | some k =>
    have hq := neq_map (some k) w
    go_enter Tryz.func58, Tryz.ntmps58
    go_wp2
    go_ret
    exact ⟨rfl, rfl⟩
theorem dir_any {w : World} {D : Value → List Int → Prop} {n : Nd} (H : NodeIn (inW w) D n) : Calls Tryz.prog 58 #[.pointer (some ⟨n.b, 0, none⟩)] w fun e w' => e = .returned (.bool n.k.isSome) ∧ w = w' := dir_cell H.at0.1
def Nd.loose (n : Nd) : Bool := !n.k.isSome && (n.places == 0)
theorem loose_any {w : World} {D : Value → List Int → Prop} {n : Nd} (H : NodeIn (inW w) D n) : Calls Tryz.prog 37 #[.pointer (some ⟨n.b, 0, none⟩)] w fun e w' => e = .returned (.bool n.loose) ∧ w = w' := by
  obtain ⟨c0, _, c2⟩ := H.at0
  have hd := dir_any H
  cases hk : n.k with
  | none =>
    rw [hk] at hd
    have hl : n.loose = (n.places == 0) := by unfold Nd.loose; rw [hk]; rfl
    rw [hl]
    go_enter Tryz.func37, Tryz.ntmps37
    go_wp2_with (go_at_call 58; refine hd.mono ?_; rintro e w' ⟨rfl, rfl⟩)
    go_ret
    exact ⟨rfl, rfl⟩
  | some k =>
    rw [hk] at hd
    have hl : n.loose = false := by unfold Nd.loose; rw [hk]; rfl
    rw [hl]
    go_enter Tryz.func37, Tryz.ntmps37
    go_wp2_with (go_at_call 58; refine hd.mono ?_; rintro e w' ⟨rfl, rfl⟩)
    go_ret
    exact ⟨rfl, rfl⟩
theorem nodes_any {w : World} {D : Value → List Int → Prop} {t : Nat} {T : Tr} (H : TreeIn (inW w) D t T) : Calls Tryz.prog 24 #[.pointer (some ⟨t, 0, none⟩)] w fun e w' => e = .returned (.int .i64 (T.nodes.length : Int)) ∧ w = w' := by
  obtain ⟨_, _, c2⟩ := H.at0
  obtain ⟨o, h1, h2⟩ := H.map
  have hl : ∀ ty, (Builtin.len_ #[73] ty #[.map (some T.bm)]).run Tryz.prog w = _ := fun ty => MapO.length Tryz.underlying73 h2 h1 ty
  rw [show (nodesV T).length = T.nodes.length by simp [nodesV]] at hl
  go_enter Tryz.func24, Tryz.ntmps24
  go_wp2
  go_ret
  exact ⟨rfl, rfl⟩
set_option maxHeartbeats 1000000 in
theorem find_any {w : World} {D : Value → List Int → Prop} {t : Nat} {T : Tr} (H : TreeIn (inW w) D t T) (G : Good T) (s : ByteArray) (hs : s.size ≤ maxLen) (hm : Mx w) :
    Calls Tryz.prog 15 #[.pointer (some ⟨t, 0, none⟩), .string s] w fun e w' => e = .returned (.tuple #[.int .i64 ((findT T s.data.toList).getD 0), .bool (findT T s.data.toList).isSome]) ∧ Below w.heap.size w w' := by
  have hsp := split_any s w hs hm
  generalize s.data.toList = l at *
  by_cases ho : okP l = true
  · have hf : findT T l = walkT T 1 (namesL l) := by unfold findT; rw [if_pos ho]
    rw [hf]
    obtain ⟨R, hR⟩ : ∃ R, walkT T 1 (namesL l) = R := ⟨_, rfl⟩
    have HRR := Lib.hid hR
    rw [hR]
    clear hR
    go_enter Tryz.func15, Tryz.ntmps15
    go_wp2_with fail
    refine hsp.mono ?_
    rintro e w1 ⟨v, rfl, hO⟩
    obtain ⟨a, c, rfl, hn1, hn2⟩ := hO.sized
    have hb1 := hO.below
    have H1 := Lib.hid (H.later hb1)
    have HS := Lib.hid hO.sts
    obtain ⟨_, _, c2⟩ := (H.later hb1).at0
    have hlen := (names_bounds l).1
    unfold maxLen at hn2
    clear hO hsp hf H
    rw [ho]
    generalize namesL l = ls at *
    go_wp2_with fail
    go_loop [8, 20] (fun u i => ∃ (k : Nat) (cur : Int), k ≤ ls.length ∧ i = .int .i64 k ∧ u = .int .i64 cur ∧ Hid (walkT T 1 (ls.take k) = some cur)) (fun _ i => ls.length - (intOf i).toNat)
    case atStart => exact ⟨0, 1, Nat.zero_le _, rfl, rfl, rfl⟩
    case round =>
      obtain ⟨k, cur, hk, rfl, rfl, HW⟩ := hrel
      by_cases hlt : k < ls.length
      · obtain ⟨a', c', e1, _, _, h3⟩ := HS.out
        injection e1 with e1 e2 e3
        subst e1 e3
        obtain ⟨b, o, rfl, _, hcs⟩ := h3 (by omega)
        have hc := hcs k hlt
        clear hcs
        obtain ⟨nd, hnd⟩ := walkT_there G (by obtain ⟨n, _, h, _⟩ := G.root; exact ⟨n, h⟩) HW.out
        have hlk := H1.out.look cur
        rw [hnd] at hlk
        have hN := H1.out.node _ (look_mem hnd)
        obtain ⟨d0, _, _⟩ := hN.at0
        have hsn := walkT_snoc T 1 (ls.take k) ls[k]
        rw [HW.out, ← List.take_succ_eq_append_getElem hlt] at hsn
        simp only [hnd] at hsn
        have hfull : look nd.kids (toB ls[k]) = none → walkT T 1 ls = none := fun hx => by
          have : ∀ (r a : List (List UInt8)) (i : Int), walkT T i a = none → walkT T i (a ++ r) = none := by
            intro r a
            induction a with
            | nil => intro i h; cases h
            | cons x a ih =>
              intro i h
              simp only [List.cons_append, walkT] at h ⊢
              cases h1 : look T.nodes i with
              | none => rfl
              | some n =>
                simp only [h1] at h ⊢
                cases h2 : look n.kids (toB x) with
                | none => rfl
                | some j => simp only [h2] at h ⊢; exact ih j h
          have h5 := this (ls.drop (k + 1)) (ls.take (k + 1)) 1 (by rw [hsn, hx])
          rwa [List.take_append_drop] at h5
        have HSn := Lib.hid hsn
        have HFl := Lib.hid hfull
        have hkl : (Instr.lookup 84 (.map nd.k) (.string (toB ls[k])) true).run Tryz.prog w1 = .ok (.tuple #[.int .i64 ((look nd.kids (toB ls[k])).getD 0), .bool (look nd.kids (toB ls[k])).isSome]) w1 := by
          cases hkk : nd.k with
          | none => rw [hN.file hkk]; exact lookup_nil w1 _
          | some kb => exact hN.look hkk _
        clear hsn hfull h3 hN hnd
        generalize hL : look nd.kids (toB ls[k]) = lk at *
        generalize ls[k] = x at *
        clear hL
        dsimp only [ptrOf] at hlk
        cases lk with
        | none =>
          have HX := Lib.hid (HFl.out rfl)
          clear HFl HSn HW
          dsimp only [Option.getD_none, Option.isSome_none] at hkl
          go_wp2_with fail
          go_ret2
          exact ⟨by rw [← HRR.out, HX.out]; rfl, hb1⟩
        | some j =>
          clear HFl
          dsimp only [Option.getD_some, Option.isSome_some] at hkl
          go_wp2_with fail
          go_round
          case rel => exact ⟨k + 1, j, by omega, by go_num, rfl, HSn⟩
          case measure => simp [intOf]; omega
      · have HT := Lib.hid (show walkT T 1 ls = some cur by have := HW.out; rwa [List.take_of_length_le (by omega)] at this)
        clear HW
        go_wp2_with fail
        go_ret2
        exact ⟨by rw [← HRR.out, HT.out]; rfl, hb1⟩
  · have ho' : okP l = false := by simpa using ho
    have hf : findT T l = none := by unfold findT; rw [if_neg ho]
    rw [hf]
    clear ho hf
    go_enter Tryz.func15, Tryz.ntmps15
    go_wp2_with fail
    refine hsp.mono ?_
    rintro e w1 ⟨v, rfl, hO⟩
    obtain ⟨a, c, rfl, hn1, hn2⟩ := hO.sized
    have hb1 := hO.below
    rw [ho']
    clear hO
    go_wp2_with fail
    go_ret2
    exact ⟨rfl, hb1⟩
end Go.Proofs.YtamkfadammlhbaaGreatDoor
