/- List, against the plain state. -/
import Derived.Test.YtamkfadammlhbaaGreatDoorTree32
namespace Go.Proofs.YtamkfadammlhbaaGreatDoor
open Go.RowKit
open Go.ChangeMaps (setBlock)
set_option linter.unusedVariables false
set_option linter.unusedSimpArgs false
set_option maxRecDepth 100000

def rowT (v : Value) (ls : List (List UInt8)) : Rw := ⟨9, 1, v, ls.length, ls.map encStr⟩
theorem live_list {w0 w : World} {L : List Rw} {t : Nat} {E : Et} (h : Live w0 L t E w) (hm : Mx w0) (s : ByteArray) (hs : s.size ≤ maxLen) {f : ENd} (hf : standE E s.data.toList = some f) (hd : f.dir = true) (hnd : (f.kids.map (·.1)).Nodup) (hkz : ∀ p ∈ f.kids, p.1.size ≤ maxLen) (hlen : f.kids.length ≤ 1000000) :
    Calls Tryz.prog 29 #[.pointer (some ⟨t, 0, none⟩), .string s] w fun e w' => ∃ (v : Value) (ss : List (List UInt8)), e = .returned (.tuple #[v, .int .i64 0]) ∧ ss.Perm (f.kids.map fun p => p.1.data.toList) ∧ Live w0 (rowT v (ss.mergeSort fun x y => decide (x ≤ y)) :: L) t E w' := by
  have hmw := h.mx hm
  have hh := h
  obtain ⟨S, L', T, h1, h2, h3, h4⟩ := h
  have hst := h4.stand h3.good.keys s.data.toList
  rw [hf] at hst
  cases hn : standT T s.data.toList with
  | none => rw [hn] at hst; cases hst
  | some n =>
    rw [hn] at hst
    have e : n.er = f := by injection hst
    have hki : n.kids = f.kids := congrArg ENd.kids e
    have hk : n.k.isSome = true := (congrArg ENd.dir e).trans hd
    cases hk2 : n.k with
    | none => rw [hk2] at hk; cases hk
    | some k =>
      refine (list_dir (h3.at_.inWorld h1) h3.good s hs hmw hn hk2 (by rw [hki]; exact hnd) (by rw [hki]; exact hkz) (by rw [hki]; exact hlen)).mono fun e w' hr => ?_
      obtain ⟨v, ss, e1, e2, e3, e4⟩ := hr
      rw [hki] at e2
      have hl : (ss.mergeSort fun x y => decide (x ≤ y)).length = ss.length := List.length_mergeSort _
      have hO : Own w w' [rowT v (ss.mergeSort fun x y => decide (x ≤ y))] := ⟨e4, fun p hp => by
        rw [List.mem_singleton.1 hp]
        show w'.ownsRow _ _ 1 v (ss.mergeSort fun x y => decide (x ≤ y)).length _
        rw [hl]; exact e3, List.pairwise_singleton _ _, (fun m hm => by cases hm), (fun m hm => by cases hm)⟩
      exact ⟨v, ss, e1, e2, hh.join hO⟩
end Go.Proofs.YtamkfadammlhbaaGreatDoor
