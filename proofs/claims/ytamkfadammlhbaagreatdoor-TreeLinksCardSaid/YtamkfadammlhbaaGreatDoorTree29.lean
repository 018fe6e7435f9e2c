/- A directory's names in order: what the kit's contracts ask of a map. -/
import Derived.Test.YtamkfadammlhbaaGreatDoorTree28
import Derived.Test.YtamkfadammlhbaaGreatDoorIter
namespace Go.Proofs.YtamkfadammlhbaaGreatDoor
open Go.RowKit Go.Maps
open Go.ChangeMaps (setBlock)
open Go.WideElems (Fit rd rg)
set_option linter.unusedVariables false
set_option linter.unusedSimpArgs false
set_option maxRecDepth 100000

abbrev noR : Value → Option (DataW Unit × List MemPlace) := fun _ => some (.nil, [])
def sOf (v : Value) : List UInt8 := match v with
  | .string s => s.data.toList
  | _ => []
theorem owns_of {w : World} {b : Nat} {o : Obj} {kids : List (ByteArray × Int)} (h : MapO KS o (kidsV kids)) (hb : w.heap[b]? = some o) (hd : (kids.map (·.1)).Nodup) (hs : ∀ p ∈ kids, p.1.size ≤ maxLen) (hn : kids.length ≤ maxLen) :
    ∃ D0 : DataW Unit, w.ownsMap Tryz.prog 9 noR b kids.length D0 ∧ (strKeys D0).Perm (kids.map fun p => p.1.data.toList) ∧ Maps.size D0 = kids.length := by
  obtain ⟨es, clock, rfl, h1, h2, h3⟩ := h
  have hk : es.toList.map (·.key) = kids.map fun p => KS p.1 := by
    have := congrArg (List.map (·.1)) h1
    rw [List.map_map, List.map_map] at this
    rw [show es.toList.map (·.key) = es.toList.map ((fun p : Value × Value => p.1) ∘ fun e => (e.key, e.val)) from rfl, this]
    unfold kidsV
    rw [List.map_map]; rfl
  have hsz : es.size = kids.length := by
    have := congrArg List.length hk
    simpa using this
  have hkey : ∀ x ∈ es.toList, ∃ s : ByteArray, x.key = .string s ∧ s.size ≤ maxLen := fun x hx => by
    have : x.key ∈ kids.map fun p => KS p.1 := by rw [← hk]; exact List.mem_map.2 ⟨x, hx, rfl⟩
    obtain ⟨p, hp, e⟩ := List.mem_map.1 this
    exact ⟨p.1, e.symm, hs p hp⟩
  have hrd : ∀ x ∈ es.toList, rd Tryz.prog 9 noR x = some (.string (sOf x.key), .nil) := fun x hx => by
    obtain ⟨s, e, hs⟩ := hkey x hx
    unfold rd
    rw [e, Go.WideMaps.keyOf_string_mk Tryz.underlying9 hs]; rfl
  refine ⟨_, ⟨es, clock, hb, ⟨by omega, ⟨h3, h2, ?_⟩, fun x hx => ⟨_, hrd x hx⟩⟩, by omega, rfl⟩, ?_, ?_⟩
  · rw [hk]
    have : (kids.map fun p => KS p.1) = (kids.map (·.1)).map KS := by rw [List.map_map]; rfl
    rw [this]
    exact hd.map (f := KS) (fun a b hne e => hne (by injection e))
  · have hp := (Go.WideShapes.sorted_perm (es.toList.map (rg Tryz.prog 9 noR))).map (fun p => strOf p.1)
    refine List.Perm.trans hp ?_
    rw [List.map_map]
    have e1 : es.toList.map ((fun p : Lit × DataW Unit => strOf p.1) ∘ rg Tryz.prog 9 noR) = es.toList.map fun x => sOf x.key := List.map_congr_left fun x hx => by
      simp only [Function.comp, rg, hrd x hx]; rfl
    rw [e1, show (es.toList.map fun x => sOf x.key) = (es.toList.map (·.key)).map sOf by rw [List.map_map]; rfl, hk, List.map_map]
    exact List.Perm.refl _
  · rw [Maps.size_eq, Go.length_sorted, List.length_map]
    simpa using hsz
end Go.Proofs.YtamkfadammlhbaaGreatDoor
