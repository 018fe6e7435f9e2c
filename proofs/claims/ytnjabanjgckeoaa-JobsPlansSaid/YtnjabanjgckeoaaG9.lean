/- Names. -/
import Derived.Test.YtnjabanjgckeoaaG8
import Derived.Lib.OwnBridge
namespace Go.Proofs.Ytnjabanjgckeoaa
open Go.RowKit Go.Maps Go.Shelf
open Go.ChangeMaps (setBlock)
open Go.WideElems (Fit rd rg)
set_option linter.unusedVariables false
set_option linter.unusedSimpArgs false
set_option maxRecDepth 100000

abbrev noRG : Value → Option (DataW Unit × List MemPlace) := fun _ => some (.nil, [])
def sOfG (v : Value) : List UInt8 := match v with
  | .string s => s.data.toList
  | _ => []
theorem owns_ofG {w : World} {b : Nat} {o : Obj} {ents : List (Nm × Value)} (h : MapO keyN o ents) (hb : w.heap[b]? = some o) (hd : (ents.map (·.1)).Nodup) (hs : ∀ p ∈ ents, p.1.length ≤ maxLen) (hn : ents.length ≤ maxLen) :
    ∃ D0 : DataW Unit, w.ownsMap Try.prog 9 noRG b ents.length D0 ∧ (strKeys D0).Perm (ents.map (·.1)) ∧ Maps.size D0 = ents.length := by
  obtain ⟨es, clock, rfl, h1, h2, h3⟩ := h
  have hk : es.toList.map (·.key) = ents.map fun p => keyN p.1 := by
    have := congrArg (List.map (·.1)) h1
    rw [List.map_map, List.map_map] at this
    rw [show es.toList.map (·.key) = es.toList.map ((fun p : Value × Value => p.1) ∘ fun e => (e.key, e.val)) from rfl, this]
    rfl
  have hsz : es.size = ents.length := by
    have := congrArg List.length hk
    simpa using this
  have hkey : ∀ x ∈ es.toList, ∃ s : ByteArray, x.key = .string s ∧ s.size ≤ maxLen := fun x hx => by
    have : x.key ∈ ents.map fun p => keyN p.1 := by rw [← hk]; exact List.mem_map.2 ⟨x, hx, rfl⟩
    obtain ⟨p, hp, e⟩ := List.mem_map.1 this
    exact ⟨toB p.1, e.symm, by rw [toB_size]; exact hs p hp⟩
  have hrd : ∀ x ∈ es.toList, rd Try.prog 9 noRG x = some (.string (sOfG x.key), .nil) := fun x hx => by
    obtain ⟨s, e, hs⟩ := hkey x hx
    unfold rd
    rw [e, Go.WideMaps.keyOf_string_mk Try.underlying9 hs]; rfl
  refine ⟨_, ⟨es, clock, hb, ⟨by omega, ⟨h3, h2, ?_⟩, fun x hx => ⟨_, hrd x hx⟩⟩, by omega, rfl⟩, ?_, ?_⟩
  · rw [hk]
    have : (ents.map fun p => keyN p.1) = (ents.map (·.1)).map keyN := by rw [List.map_map]; rfl
    rw [this]
    exact hd.map (f := keyN) (fun a b hne e => hne (by injection e with e; exact toB_inj e))
  · have hp := (Go.WideShapes.sorted_perm (es.toList.map (rg Try.prog 9 noRG))).map (fun p => strOf p.1)
    refine List.Perm.trans hp ?_
    rw [List.map_map]
    have e1 : es.toList.map ((fun p : Lit × DataW Unit => strOf p.1) ∘ rg Try.prog 9 noRG) = es.toList.map fun x => sOfG x.key := List.map_congr_left fun x hx => by
      simp only [Function.comp, rg, hrd x hx]; rfl
    rw [e1, show (es.toList.map fun x => sOfG x.key) = (es.toList.map (·.key)).map sOfG by rw [List.map_map]; rfl, hk, List.map_map]
    have e2 : (sOfG ∘ fun p : Nm × Value => keyN p.1) = fun p : Nm × Value => p.1 := by
      funext p
      rfl
    rw [e2]
  · rw [Maps.size_eq, Go.length_sorted, List.length_map]
    simpa using hsz
theorem Own.ofRow {w w' : World} {v : Value} {ls : List Nm} (h : w'.ownsRow w.heap.size 9 1 v ls.length (strs ls)) (hb : Below w.heap.size w w') : Own w w' [rowSs v ls] :=
  ⟨hb, (fun p hp => by rw [List.mem_singleton.1 hp]; exact h), List.pairwise_singleton .., (fun m hm => by cases hm), (fun m hm => by cases hm)⟩
set_option maxHeartbeats 2000000 in
theorem names_any {w : World} {g bu : Nat} {xs : List UV} {us : List GU} (h : UsAt w g bu xs us) (hd : (namesU us).Nodup) (hlen : us.length ≤ 1000) (hs : ∀ n ∈ namesU us, n.length ≤ 1000000) :
    Calls Try.prog 19 #[.pointer (some ⟨g, 0, none⟩)] w fun e w' => ∃ v, e = .returned v ∧ Own w w' [rowSs v (sortN (namesU us))] := by
  have hc := h.cell
  obtain ⟨o, h1, h2⟩ := h.map
  have hk : (entsU xs).map (·.1) = namesU us := by rw [← h.units.names]; unfold entsU; rw [List.map_map]; rfl
  have hel : (entsU xs).length = us.length := by unfold entsU; rw [List.length_map]; exact h.units.len
  obtain ⟨D0, hown, hperm, hsz0⟩ := owns_ofG h2 h1 (by rw [hk]; exact hd) (fun p hp => by
    have := hs p.1 (by rw [← hk]; exact List.mem_map.2 ⟨p, hp, rfl⟩)
    unfold maxLen; omega) (by rw [hel]; unfold maxLen; omega)
  have hml : us.length ≤ maxLen := by unfold maxLen; omega
  have hby : us.length * 16 ≤ 140737488355328 := by omega
  rw [hel] at hown hsz0
  rw [hk] at hperm
  clear h h1 h2 hk hel hs
  refine (callsIn_wide (n := 6)).1 ?_
  have hfK : Fence.wide.fn 39 := trivial
  have hfS : Fence.wide.fn 38 := trivial
  refine callsIn_of_wp Try.func19 rfl trivial ?_ rfl
  simp only [Try.ntmps19, List.size_toArray, List.length_cons, List.length_nil, Nat.reduceAdd, Nat.reduceSub, Array.replicate_succ, Array.replicate_zero, List.push_toArray, List.append_toArray, List.nil_append, List.cons_append]
  gi_wp2_with (first
    | (gi_at_call 39; refine (Try.maps_Keys_39 _ _).mono ?_; rintro e w' ⟨rfl, rfl⟩)
    | (gi_at_call 38; refine (Try.slices_Sorted_keys_38_39 bu us.length D0 noRG w hown (by rw [hsz0]; exact hml) (by rw [hsz0]; exact hby)).mono ?_; rintro e w' ⟨v, ss, rfl, hS, hrow, hnil, hb⟩))
  have hle : w.heap.size ≤ (w.alloc (.cells #[.map (some bu)] 46)).heap.size := by simp
  have hss : sortN ss = sortN (namesU us) := sortN_eq (hS.trans hperm)
  rw [merge_sortN, hss] at hrow
  have hll : ss.length = (sortN (namesU us)).length := by rw [sortN_length]; exact (hS.trans hperm).length_eq
  rw [hll] at hrow
  go_ret
  exact ⟨v, rfl, Own.ofRow (ownsRow_base hrow hle) (((Below.refl _ _).alloc (Nat.le_refl _) _).trans (hb.mono hle))⟩
end Go.Proofs.Ytnjabanjgckeoaa
