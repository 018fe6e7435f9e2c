/- List, of a directory. -/
import Derived.Test.YtamkfadammlhbaaGreatDoorTree29
namespace Go.Proofs.YtamkfadammlhbaaGreatDoor
open Go.RowKit Go.Maps Go.Shelf
open Go.ChangeMaps (setBlock)
set_option linter.unusedVariables false
set_option linter.unusedSimpArgs false
set_option maxRecDepth 100000

set_option maxHeartbeats 2000000 in
theorem list_dir {w : World} {D : Value → List Int → Prop} {t : Nat} {T : Tr} (H : TreeIn (inW w) D t T) (G : Good T) (s : ByteArray) (hs : s.size ≤ maxLen) (hm : Mx w) {n : Nd} (hn : standT T s.data.toList = some n) {k : Nat} (hk : n.k = some k)
    (hnd : (n.kids.map (·.1)).Nodup) (hkz : ∀ p ∈ n.kids, p.1.size ≤ maxLen) (hlen : n.kids.length ≤ 1000000) :
    Calls Tryz.prog 29 #[.pointer (some ⟨t, 0, none⟩), .string s] w fun e w' => ∃ (v : Value) (ss : List (List UInt8)), e = .returned (.tuple #[v, .int .i64 0]) ∧ ss.Perm (n.kids.map fun p => p.1.data.toList) ∧
      w'.ownsRow w.heap.size 9 1 v ss.length ((ss.mergeSort (fun x y => decide (x ≤ y))).map encStr) ∧ Below w.heap.size w w' := by
  have hst := stands_any H G s hs hm
  rw [hn] at hst
  dsimp only [ptrOf] at hst
  obtain ⟨i, hi⟩ := stand_mem hn
  have hgen : ∀ w2, Below w.heap.size w w2 → Calls Tryz.prog 58 #[.pointer (some ⟨n.b, 0, none⟩)] w2 (fun e w' => e = .returned (.bool true) ∧ w2 = w') ∧ w2.cell? ⟨n.b, 0, none⟩ = some (.map (some k)) ∧
      ∃ D0 : DataW Unit, w2.ownsMap Tryz.prog 9 noR k n.kids.length D0 ∧ (strKeys D0).Perm (n.kids.map fun p => p.1.data.toList) ∧ Maps.size D0 = n.kids.length := by
    intro w2 hb
    have hN := (H.later hb).node _ hi
    have hd := dir_any hN
    rw [show n.k.isSome = true by rw [hk]; rfl] at hd
    have h0 := hN.at0.1
    simp only [hk] at h0
    obtain ⟨o, h1, h2⟩ := hN.kid k hk
    exact ⟨hd, h0, owns_of h2 h1 hnd hkz (by unfold maxLen; omega)⟩
  have hml : n.kids.length ≤ maxLen := by unfold maxLen; omega
  have hby : n.kids.length * 16 ≤ 140737488355328 := by omega
  clear H G hn hi hk hnd hkz
  refine (callsIn_wide (n := 6)).1 ?_
  have hfA : Fence.wide.fn 57 := trivial
  have hfB : Fence.wide.fn 58 := trivial
  have hfK : Fence.wide.fn 62 := trivial
  have hfS : Fence.wide.fn 61 := trivial
  refine callsIn_of_wp Tryz.func29 rfl trivial ?_ rfl
  simp only [Tryz.ntmps29, List.size_toArray, List.length_cons, List.length_nil, Nat.reduceAdd, Nat.reduceSub, Array.replicate_succ, Array.replicate_zero, List.push_toArray, List.append_toArray, List.nil_append, List.cons_append]
  gi_wp2_with (first
    | (gi_at_call 57; refine (callsIn_wide.2 hst).mono ?_; rintro e w2 ⟨rfl, hb2⟩; obtain ⟨hd2, n0, D0, hown, hperm, hsz0⟩ := hgen w2 hb2)
    | (gi_at_call 58; refine (callsIn_wide.2 hd2).mono ?_; rintro e w' ⟨rfl, rfl⟩)
    | (gi_at_call 62; refine (Tryz.maps_Keys_62 _ _).mono ?_; rintro e w' ⟨rfl, rfl⟩)
    | (gi_at_call 61; refine (Tryz.slices_Sorted_keys_61_62 k n.kids.length D0 noR w2 hown (by rw [hsz0]; exact hml) (by rw [hsz0]; exact hby)).mono ?_; rintro e w' ⟨v, ss, rfl, hS, hrow, hnil, hb⟩))
  have hle : w.heap.size ≤ (w2.alloc (.cells #[.map (some k)] 84)).heap.size := by have := hb2.size; simp; omega
  go_ret2
  exact ⟨v, ss, rfl, hS.trans hperm, ownsRow_base hrow hle, (hb2.alloc hb2.size _).trans (hb.mono hle)⟩
end Go.Proofs.YtamkfadammlhbaaGreatDoor
