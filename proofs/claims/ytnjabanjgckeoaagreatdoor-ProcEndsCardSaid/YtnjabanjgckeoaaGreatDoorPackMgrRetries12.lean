/- Texts one behind the other, each in a section of its own: what calls make of memory, step by step. -/
import Derived.Test.YtnjabanjgckeoaaGreatDoorPackMgrRetries11
import Derived.Sort.OwnSortedInts
import Derived.Lib.OwnBridge
import Derived.Shelf.SlIter.Nil
import Derived.Shelf.SortM.Plain
import Derived.Shelf.SortM.SortNone
import Derived.Ground.GgzProg
import Derived.Ground.SlgmProg
import Derived.Test.YtnjabanjgckeoaaGreatDoorProg
import Derived.Lib.SliceRun

/- Reap: loose files that go. -/
section
namespace Go.Proofs.YtnjabanjgckeoaaGreatDoor
open Go.RowKit
open Go.ChangeMaps (setBlock)
set_option linter.unusedVariables false
set_option linter.unusedSimpArgs false
set_option maxRecDepth 100000

def ENd.loose (n : ENd) : Bool := !n.dir && (n.places == 0)
/-- A loose file goes. -/
def reap1 (E : Et) (i : Int) : Et := match look E.nodes i with
  | some n => if n.loose = true then { E with nodes := del E.nodes i } else E
  | none => E
def reapE (E : Et) (ids : List Int) : Et := ids.foldl reap1 E
theorem reapE_snoc (E : Et) (ids : List Int) (i : Int) : reapE E (ids ++ [i]) = reap1 (reapE E ids) i := by
  unfold reapE
  rw [List.foldl_append]; rfl
theorem Inv.reap {E : Et} {B : Nat} (h : Inv E B) {i : Int} {f : ENd} (hi : look E.nodes i = some f) (hf : f.loose = true) : i ≠ 1 ∧ refs E.nodes i = 0 ∧ Inv { E with nodes := del E.nodes i } B := by
  have hd : f.dir = false := by
    unfold ENd.loose at hf
    cases hd : f.dir with
    | false => rfl
    | true => rw [hd] at hf; simp at hf
  have hp : f.places = 0 := by
    unfold ENd.loose at hf
    rw [hd] at hf
    simpa using hf
  obtain ⟨hk, hr⟩ := h.file i f hi hd
  have hr0 : refs E.nodes i = 0 := by rw [hp] at hr; omega
  have hi1 : i ≠ 1 := fun e => by
    obtain ⟨n, h1, h2⟩ := h.root
    rw [e, h1] at hi
    injection hi with hi
    rw [hi, hd] at h2; cases h2
  refine ⟨hi1, hr0, ?_⟩
  have k2 : ((del E.nodes i).map (·.1)).Nodup := h.keys.sublist ((del_sub _ i).map _)
  have hlk : ∀ x, look (del E.nodes i) x = if x = i then none else look E.nodes x := fun x => by
    by_cases e : x = i
    · rw [if_pos e, e, look_del_same h.keys]
    · rw [if_neg e, look_del_ne e]
  have hsum := fun g => sum_del h.keys hi g
  have hrefs : ∀ x, refs (del E.nodes i) x = refs E.nodes x := fun x => by
    have h1 := hsum fun n => inK n.kids x
    have h5 : inK f.kids x = 0 := by rw [hk]; rfl
    unfold refs
    try simp only at h1
    omega
  have hlen := (del_sub E.nodes i).length_le
  have hnew : ∀ x n, look (del E.nodes i) x = some n → x ≠ i ∧ look E.nodes x = some n := fun x n hn => by
    rw [hlk] at hn
    by_cases e0 : x = i
    · rw [if_pos e0] at hn; cases hn
    · rw [if_neg e0] at hn; exact ⟨e0, hn⟩
  have hold : ∀ x n, x ≠ i → look E.nodes x = some n → look (del E.nodes i) x = some n := fun x n e hn => by rw [hlk, if_neg e]; exact hn
  generalize hM : del E.nodes i = M at *
  refine ⟨k2, ?_, fun x n hn q hq => ?_, fun x n hn => h.names x n (hnew x n hn).2, fun x n hn hd => ?_, fun x n hn hd hx1 => ?_, ?_, fun x n hn => h.low x n (hnew x n hn).2, fun x n hn => h.small x n (hnew x n hn).2, ?_, h.nx, ?_, by show M.length ≤ _; have := h.len; omega⟩
  · obtain ⟨n, h1, h2⟩ := h.root
    exact ⟨n, hold _ _ (Ne.symm hi1) h1, h2⟩
  · obtain ⟨m, h4, h5⟩ := h.kids x n (hnew x n hn).2 q hq
    exact ⟨m, hold _ _ (refs_zero hr0 (look_mem (hnew x n hn).2) hq) h4, h5⟩
  · show n.kids = [] ∧ n.places = (refs M x : Int)
    rw [hrefs]
    exact h.file x n (hnew x n hn).2 hd
  · show refs M x = 1
    rw [hrefs]
    exact h.dirs x n (hnew x n hn).2 hd hx1
  · show refs M 1 = 0
    rw [hrefs]
    exact h.top
  · have h1 := hsum fun n => n.kids.length
    have h4 := h.ents
    unfold Go.Proofs.YtnjabanjgckeoaaGreatDoor.ents at h4 ⊢
    try simp only at h1
    show (M.map _).sum ≤ _
    omega
  · have h1 := hsum fun n => n.data.length
    have h4 := h.sum
    unfold sumE at h4 ⊢
    try simp only at h1
    show (M.map _).sum ≤ _
    omega
theorem reap1_inv {E : Et} {B : Nat} (h : Inv E B) (i : Int) : Inv (reap1 E i) B := by
  unfold reap1
  cases hi : look E.nodes i with
  | none => exact h
  | some n =>
    simp only
    split
    · rename_i hl; exact (h.reap hi hl).2.2
    · exact h
theorem reapE_inv {E : Et} {B : Nat} (ids : List Int) (h : Inv E B) : Inv (reapE E ids) B := by
  induction ids generalizing E with
  | nil => exact h
  | cons i r ih => exact ih (reap1_inv h i)
theorem Rep.del {T : Tr} {E : Et} (h : Rep T E) (hd : (T.nodes.map (·.1)).Nodup) (i : Int) : Rep { T with nodes := Go.Proofs.YtnjabanjgckeoaaGreatDoor.del T.nodes i } { E with nodes := Go.Proofs.YtnjabanjgckeoaaGreatDoor.del E.nodes i } :=
  ⟨h.quota, h.next, by
    show (erL (Go.Proofs.YtnjabanjgckeoaaGreatDoor.del T.nodes i)).Perm _
    unfold erL
    rw [del_map Nd.er]
    exact del_perm h.nodes (by show ((erL T.nodes).map (·.1)).Nodup; rw [erL_keys]; exact hd) i⟩
theorem Rep.noKid {T : Tr} {E : Et} (h : Rep T E) {i : Int} (hr : refs E.nodes i = 0) : ∀ p ∈ T.nodes, ∀ q ∈ p.2.kids, q.2 ≠ i := fun p hp q hq =>
  refs_zero hr (p := (p.1, p.2.er)) (h.nodes.subset (er_mem hp)) hq

def ReapRel (w0 : World) (S : Blocks) (L : List Rw) (t : Nat) (T : Tr) (w : World) (E : Et) (B : Nat) (wr : World) : Prop :=
  ∃ S' T', Own ⟨w0, S'⟩ wr L ∧ Tree S' (Pc L) t T' ∧ Frame S S' (t :: T.foot) (t :: T'.foot) w.heap.size ∧ Rep T' E ∧ Inv E B
set_option maxHeartbeats 4000000 in
theorem reap_any {w0 w : World} {S : Blocks} {L : List Rw} {t : Nat} {T : Tr} {E : Et} {B : Nat} (hO : Own ⟨w0, S⟩ w L) (H : Tree S (Pc L) t T) (hR : Rep T E) (I : Inv E B) (a : Option Addr) (ids : List Int) (c : Nat) (hn : ids.length ≤ 1000000)
    (hid : ∀ w' S', Own ⟨w0, S'⟩ w' L → (∀ b x, (b, x) ∈ S → b ∉ t :: T.foot → (b, x) ∈ S') → ∀ i (h : i < ids.length), ∃ g o, a = some ⟨g, o, none⟩ ∧ w'.cell? ⟨g, o + i, none⟩ = some (.int .i64 ids[i])) :
    Calls Tryz.prog 73 #[.pointer (some ⟨t, 0, none⟩), .slice a ids.length c] w (DoL w0 S L t T w (fun T' => Rep T' (reapE E ids)) (.tuple #[])) := by
  have hlt : ∀ b x, (b, x) ∈ S → b < w.heap.size := fun b x hb => (hO.atLt hb).2
  have HR0 := Lib.hid (show ReapRel w0 S L t T w (reapE E (ids.take 0)) B w from ⟨S, T, hO, H, Frame.refl S _ _, by rw [List.take_zero]; exact hR, by rw [List.take_zero]; exact I⟩)
  have Hid := Lib.hid hid
  clear hid hO H hR I
  go_enter Tryz.func73, Tryz.ntmps73
  go_wp2_with fail
  go_loopw [9] (fun iv wr => ∃ k : Nat, k ≤ ids.length ∧ iv = .int .i64 k ∧ ReapRel w0 S L t T w (reapE E (ids.take k)) B wr) (fun iv _ => ids.length - (intOf iv).toNat)
  case atStart => exact ⟨0, Nat.zero_le _, rfl, HR0.out⟩
  case round =>
    obtain ⟨k, hk, rfl, S1, T1, k1, k2, k3, k4, k5⟩ := hrel
    by_cases hkl : k < ids.length
    · obtain ⟨g, o, rfl, hc⟩ := Hid.out wr S1 k1 (fun b x hb hnb => k3.kept b x hb hnb) k hkl
      have hsn : reapE E (ids.take (k + 1)) = reap1 (reapE E (ids.take k)) ids[k] := by
        rw [List.take_succ_eq_append_getElem hkl, reapE_snoc]
      obtain ⟨i, hi⟩ : ∃ i, i = ids[k] := ⟨_, rfl⟩
      rw [← hi] at hc hsn
      have d2 := (k2.at_.inWorld k1).at0.2.2
      have hl := (k2.at_.inWorld k1).look i
      have hle := k4.look k2.good.keys i
      have hb63 : (k : Int) < (ids.length : Int) := by exact_mod_cast hkl
      have hb0 : (0 : Int) ≤ (k : Int) := by omega
      obtain ⟨E1, hE1⟩ : ∃ E1, E1 = reapE E (ids.take k) := ⟨_, rfl⟩
      rw [← hE1] at hsn hle k4 k5
      cases hlk : look T1.nodes i with
      | none =>
        rw [hlk] at hl hle
        dsimp only [ptrOf] at hl
        have hE2 : reap1 E1 i = E1 := by unfold reap1; rw [← hle]; rfl
        have HR := Lib.hid (show ReapRel w0 S L t T w (reapE E (ids.take (k + 1))) B wr from ⟨S1, T1, k1, k2, k3, by rw [hsn, hE2]; exact k4, by rw [hsn, hE2]; exact k5⟩)
        clear k1 k2 k3 k4 k5 hle hsn hE2 hi hE1 hlk HR0 Hid
        go_wp2_with fail
        go_roundw
        case rel => exact ⟨k + 1, by omega, by go_num, HR.out⟩
        case measure => simp [intOf]; omega
      | some n =>
        rw [hlk] at hl hle
        dsimp only [ptrOf] at hl
        have hlo := loose_any ((k2.at_.inWorld k1).node _ (look_mem hlk))
        have hle2 : look E1.nodes i = some n.er := hle.symm
        have hnl : n.er.loose = n.loose := rfl
        cases hlz : n.loose with
        | false =>
          rw [hlz] at hlo
          have hE2 : reap1 E1 i = E1 := by unfold reap1; rw [hle2]; simp only; rw [if_neg (by rw [hnl, hlz]; simp)]
          have HR := Lib.hid (show ReapRel w0 S L t T w (reapE E (ids.take (k + 1))) B wr from ⟨S1, T1, k1, k2, k3, by rw [hsn, hE2]; exact k4, by rw [hsn, hE2]; exact k5⟩)
          clear k1 k2 k3 k4 k5 hle hle2 hsn hE2 hi hE1 hlk HR0 Hid hlz hnl
          go_wp2_with (go_at_call 109; refine hlo.mono ?_; rintro e w' ⟨rfl, rfl⟩)
          go_roundw
          case rel => exact ⟨k + 1, by omega, by go_num, HR.out⟩
          case measure => simp [intOf]; omega
        | true =>
          rw [hlz] at hlo
          have hlE : n.er.loose = true := hnl.trans hlz
          obtain ⟨hi1, hr0, hI2⟩ := k5.reap hle2 hlE
          have hE2 : reap1 E1 i = { E1 with nodes := del E1.nodes i } := by unfold reap1; rw [hle2]; simp only; rw [if_pos hlE]
          obtain ⟨o1, g1, g2⟩ := k2.at_.map
          obtain ⟨o2, hdel, hm2⟩ := g2.delete (w := wr) kindsI Tryz.underlying122 (k1.at g1) i 0
          have H2 := k2.delN hi1 (k4.noKid hr0) hm2
          have hO2 := k1.setB g1 o2
          have hR2 := k4.del k2.good.keys i
          have hfr : Frame S (upd S1 T1.bm o2) (t :: T.foot) (t :: ({ T1 with nodes := del T1.nodes i } : Tr).foot) w.heap.size := by
            refine ⟨fun b x hb hnb => ?_, fun b hb => k3.fresh b ?_⟩
            · refine upd_other (k3.kept b x hb hnb) (fun e => ?_) _
              have : T1.bm ∈ t :: T1.foot := List.mem_cons_of_mem _ (List.mem_cons_self ..)
              rcases k3.fresh _ this with h7 | h7
              · rw [← e] at h7; exact hnb h7
              · exact absurd h7 (by rw [← e]; exact Nat.not_le.2 (hlt b x hb))
            · exact ((List.Sublist.cons_cons _ (flat_sub (del_sub T1.nodes i))).cons_cons _).subset hb
          have HR := Lib.hid (show ReapRel w0 S L t T w (reapE E (ids.take (k + 1))) B (setBlock wr T1.bm o2) from ⟨_, _, hO2, H2, hfr, by rw [hsn, hE2]; exact hR2, by rw [hsn, hE2]; exact hI2⟩)
          clear k1 k2 k3 k4 k5 hle hle2 hsn hE2 hi hE1 hlk HR0 Hid hlz hnl hlE hi1 hr0 hI2 g1 g2 hm2 H2 hO2 hR2 hfr
          go_wp2_with (go_at_call 109; refine hlo.mono ?_; rintro e w' ⟨rfl, rfl⟩)
          go_roundw
          case rel => exact ⟨k + 1, by omega, by go_num, HR.out⟩
          case measure => simp [intOf]; omega
    · have hke : k = ids.length := by omega
      subst hke
      rw [List.take_length] at k4
      have HP := Lib.hid (show DoL w0 S L t T w (fun T' => Rep T' (reapE E ids)) (.tuple #[]) (.returned (.tuple #[])) wr from ⟨S1, L, T1, rfl, k1, fun _ h => h, k2, k3, k4⟩)
      have hb63 : ¬ ((ids.length : Int) < (ids.length : Int)) := Int.lt_irrefl _
      clear k1 k2 k3 k4 k5 HR0 Hid
      go_wp2_with fail
      go_end0
      exact HP.out
end Go.Proofs.YtnjabanjgckeoaaGreatDoor
end

/- A volume's small calls: what is held, let go; is there power. -/
section
namespace Go.Proofs.YtnjabanjgckeoaaGreatDoor
open Go.RowKit
open Go.ChangeMaps (setBlock)
set_option linter.unusedVariables false
set_option linter.unusedSimpArgs false
set_option maxRecDepth 100000

def heldN (m : List (Int × Int)) (i : Int) : Int := (look m i).getD 0
theorem zeroIntW (w : World) : (zeroValue 3).run Tryz.prog w = .ok (.int .i64 0) w := by kernel_rfl
section
variable {w0 w w' : World} {S S' : Blocks} {R L L' M : List Rw} {v : Nat} {X X' : VX} {T T' : Tr} {K : Blocks}
theorem VolIn.atV (h : VolIn w0 S R L v X T w) : (w.cell? ⟨v, 0, none⟩ = some (.pointer (some ⟨X.t, 0, none⟩)) ∧ w.cell? ⟨v, 1, none⟩ = some (.pointer (some ⟨X.d, 0, none⟩)) ∧ w.cell? ⟨v, 2, none⟩ = some (.pointer (some ⟨X.l, 0, none⟩)) ∧ w.cell? ⟨v, 3, none⟩ = some (.map (some X.hm)) ∧ w.cell? ⟨v, 4, none⟩ = some (.bool false)) ∧ w.frozen? ⟨v, 4, none⟩ = false := by
  refine ⟨⟨?_, ?_, ?_, ?_, ?_⟩, free_at (h.own.at h.cells) 4⟩ <;> exact h.own.cellB h.cells _
theorem VolIn.heldAt (h : VolIn w0 S R L v X T w) (i : Int) : (Instr.lookup 42 (.map (some X.hm)) (.int .i64 i) false).run Tryz.prog w = .ok (.int .i64 (heldN X.held i)) w := by
  obtain ⟨o, h1, h2⟩ := h.map
  have := MapO.lookup kindsI Tryz.underlying42 (zeroIntW w) h2 (h.own.at h1) i false
  have e := look_map (fun i : Int => Value.int .i64 i) X.held i
  rw [show heldV X.held = X.held.map fun p => (p.1, (fun i : Int => Value.int .i64 i) p.2) from rfl, e] at this
  rw [this]
  unfold heldN
  cases look X.held i <;> rfl
theorem held_any (h : VolIn w0 S R L v X T w) (i : Int) : Calls Tryz.prog 15 #[.pointer (some ⟨v, 0, none⟩), .int .i64 i] w fun e w' => e = .returned (.int .i64 (heldN X.held i)) ∧ w = w' := by
  obtain ⟨⟨c0, c1, c2, c3, c4⟩, f4⟩ := h.atV
  have hl := h.heldAt i
  clear h c0 c1 c2 c4 f4
  go_enter Tryz.func15, Tryz.ntmps15
  go_wp2_with fail
  go_ret
  exact ⟨rfl, rfl⟩
/-- A store of what is there. -/
theorem VolIn.still (h : VolIn w0 S R L v X T w) : VolIn w0 S R L v X T (w.setCell ⟨v, 4, none⟩ (.bool false)) := by
  have h1 := h.own.storeB h.cells 4 (.bool false)
  have e : (volCells X).setIfInBounds 4 (.bool false) = volCells X := rfl
  rw [e, h.own.upd_same' h.cells] at h1
  exact { h with own := h1 }
theorem dead_any (h : VolIn w0 S R L v X T w) : Calls Tryz.prog 69 #[.pointer (some ⟨v, 0, none⟩)] w fun e w' => e = .returned (.bool false) ∧ VolIn w0 S R L v X T w' ∧ w'.heap.size = w.heap.size := by
  obtain ⟨⟨c0, c1, c2, c3, c4⟩, f4⟩ := h.atV
  obtain ⟨L', hd⟩ := h.lg.disk
  have hdn := down_any _ _ _ _ _ hd
  rw [h.live.up] at hdn
  have HP := Lib.hid h.still
  have HS := Lib.hid (show (w.setCell ⟨v, 4, none⟩ (.bool false)).heap.size = w.heap.size by simp)
  clear h hd c0 c2 c3
  go_enter Tryz.func69, Tryz.ntmps69
  go_wp2_with (go_at_call 101; refine hdn.mono ?_; rintro e w' ⟨rfl, rfl⟩)
  go_ret
  exact ⟨rfl, HP.out, HS.out⟩
theorem VolIn.find (h : VolIn w0 S R L v X T w) (hm : Mx w0) (s : ByteArray) (hs : s.size ≤ maxLen) :
    Calls Tryz.prog 14 #[.pointer (some ⟨X.t, 0, none⟩), .string s] w fun e w' => e = .returned (.tuple #[.int .i64 ((findX X.E s.data.toList).getD 0), .bool (findX X.E s.data.toList).isSome]) ∧ Below w.heap.size w w' := by
  have hf := find_any h.treeW h.tree.good s hs (hm.later h.below)
  have e : findT T s.data.toList = findX X.E s.data.toList := by
    unfold findT findX
    rw [h.rep.walk h.tree.good.keys]
  rw [e] at hf
  exact hf
/-- What stands at a path: a number, and whether it is a directory. -/
def dirX (E : Et) (l : List UInt8) : Bool := match (findX E l).bind fun i => look E.nodes i with
  | some n => n.dir
  | none => false
theorem VolIn.dir (h : VolIn w0 S R L v X T w) (hm : Mx w0) (s : ByteArray) (hs : s.size ≤ maxLen) :
    Calls Tryz.prog 99 #[.pointer (some ⟨X.t, 0, none⟩), .string s] w fun e w' => e = .returned (.bool (dirX X.E s.data.toList)) ∧ Below w.heap.size w w' := by
  have hf := isdir_any h.treeW h.tree.good s hs (hm.later h.below)
  have e : dirT T s.data.toList = dirX X.E s.data.toList := by
    unfold dirT dirX standT
    have e1 : findT T s.data.toList = findX X.E s.data.toList := by
      unfold findT findX
      rw [h.rep.walk h.tree.good.keys]
    rw [← e1]
    cases h1 : findT T s.data.toList with
    | none => rfl
    | some i =>
      simp only [Option.bind_some]
      rw [← h.rep.look h.tree.good.keys i]
      cases look T.nodes i <;> rfl
  rw [e] at hf
  exact hf
theorem VolIn.put (h : VolIn w0 S R L v X T w) (i n : Int) : ∃ o o', (X.hm, o) ∈ S ∧ (Instr.mapUpdate 42 (.map (some X.hm)) (.int .i64 i) (.int .i64 n)).run Tryz.prog w = .ok () (setBlock w X.hm o') ∧ VolIn w0 (upd S X.hm o') R L v { X with held := put X.held i n } T (setBlock w X.hm o') := by
  obtain ⟨o, h1, h2⟩ := h.map
  obtain ⟨o', h3, h4⟩ := h2.update kindsI Tryz.underlying42 (h.own.at h1) i (.int .i64 n)
  have e : Go.Proofs.YtnjabanjgckeoaaGreatDoor.put (heldV X.held) i (.int .i64 n) = heldV (Go.Proofs.YtnjabanjgckeoaaGreatDoor.put X.held i n) := by
    unfold heldV
    induction X.held with
    | nil => rfl
    | cons p r ih =>
      simp only [List.map_cons]
      unfold Go.Proofs.YtnjabanjgckeoaaGreatDoor.put
      by_cases hp : p.1 = i
      · rw [if_pos hp, if_pos hp]; rfl
      · rw [if_neg hp, if_neg hp, List.map_cons, ih]
  rw [e] at h4
  exact ⟨o, o', h1, h3, h.held' h1 h4⟩
/-- What is not the volume's, nor the map's of what is held, is as it was. -/
theorem upd_to {X2 : VX} {o' : Obj} {n : Nat} (h2 : VolIn w0 (upd S X.hm o') R L v X2 T w') (ht : X2.t = X.t) (hh : X2.hm = X.hm) : VolTo w0 S L v X T n X2 w' :=
  ⟨_, R, L, T, h2, fun _ h => h, fun b x hb hn => upd_other hb (fun e => hn (e ▸ List.mem_cons_of_mem _ (List.mem_cons_self ..))) _, fun _ h => .inl h, ht, hh⟩
set_option maxHeartbeats 1000000 in
/-- A file at a path is held. -/
theorem hold_yes (h : VolIn w0 S R L v X T w) (hm : Mx w0) (s : ByteArray) (hs : s.size ≤ maxLen) {i : Int} (hf : findX X.E s.data.toList = some i) (hd : dirX X.E s.data.toList = false) {m : Int} (hmq : heldN X.held i = m) (hb : -1000000 ≤ m ∧ m ≤ 1000000) :
    Calls Tryz.prog 292 #[.pointer (some ⟨v, 0, none⟩), .string s] w fun e w' => e = .returned (.tuple #[.int .i64 i, .int .i64 0]) ∧ VolTo w0 S L v X T w.heap.size { X with held := put X.held i (m + 1) } w' := by
  have hfd := h.find hm s hs
  rw [hf] at hfd
  dsimp only [Option.getD_some, Option.isSome_some] at hfd
  obtain ⟨⟨c0, c1, c2, c3, c4⟩, f4⟩ := h.atV
  have H := Lib.hid h
  have Hb := Lib.hid hb
  have Hd := Lib.hid hd
  clear h c1 c2 c3 c4 f4 hb hd hf
  go_enter Tryz.func292, Tryz.ntmps292
  go_wp2_with fail
  refine hfd.mono ?_
  rintro e w1 ⟨rfl, hb1⟩
  have h1 := H.out.later hb1
  have hdr := h1.dir hm s hs
  rw [Hd.out] at hdr
  obtain ⟨⟨c0', c1, c2, c3, c4⟩, f4⟩ := h1.atV
  have H1 := Lib.hid h1
  clear h1 hfd c0 c1 c2 c3 c4 f4 hb1
  go_wp2_with fail
  refine hdr.mono ?_
  rintro e w2 ⟨rfl, hb2⟩
  have h2 := H1.out.later hb2
  obtain ⟨⟨c0, c1, c2, c3, c4⟩, f4⟩ := h2.atV
  have hl := h2.heldAt i
  rw [hmq] at hl
  obtain ⟨o, o', _, hup, h3⟩ := h2.put i (m + 1)
  have HP := Lib.hid (show VolTo w0 S L v X T w.heap.size { X with held := put X.held i (m + 1) } (setBlock w2 X.hm o') from upd_to h3 rfl rfl)
  have hw : (-1000000 : Int) ≤ m ∧ m ≤ 1000000 := Hb.out
  clear h2 h3 hdr hb2 c0 c0' c1 c2 c4 f4 hmq
  go_wp2_with fail
  go_ret2
  exact ⟨rfl, HP.out⟩
theorem hold_none (h : VolIn w0 S R L v X T w) (hm : Mx w0) (s : ByteArray) (hs : s.size ≤ maxLen) (hf : findX X.E s.data.toList = none) :
    Calls Tryz.prog 292 #[.pointer (some ⟨v, 0, none⟩), .string s] w fun e w' => e = .returned (.tuple #[.int .i64 0, .int .i64 8]) ∧ VolIn w0 S R L v X T w' ∧ w.heap.size ≤ w'.heap.size := by
  have hfd := h.find hm s hs
  rw [hf] at hfd
  dsimp only [Option.getD_none, Option.isSome_none] at hfd
  obtain ⟨⟨c0, c1, c2, c3, c4⟩, f4⟩ := h.atV
  have H := Lib.hid h
  clear h c1 c2 c3 c4 f4 hf
  go_enter Tryz.func292, Tryz.ntmps292
  go_wp2_with fail
  refine hfd.mono ?_
  rintro e w1 ⟨rfl, hb1⟩
  have HP := Lib.hid (And.intro (H.out.later hb1) hb1.size)
  clear hb1 hfd
  go_wp2_with fail
  go_ret2
  exact ⟨rfl, HP.out⟩
theorem hold_dir (h : VolIn w0 S R L v X T w) (hm : Mx w0) (s : ByteArray) (hs : s.size ≤ maxLen) {i : Int} (hf : findX X.E s.data.toList = some i) (hd : dirX X.E s.data.toList = true) :
    Calls Tryz.prog 292 #[.pointer (some ⟨v, 0, none⟩), .string s] w fun e w' => e = .returned (.tuple #[.int .i64 0, .int .i64 10]) ∧ VolIn w0 S R L v X T w' ∧ w.heap.size ≤ w'.heap.size := by
  have hfd := h.find hm s hs
  rw [hf] at hfd
  dsimp only [Option.getD_some, Option.isSome_some] at hfd
  obtain ⟨⟨c0, c1, c2, c3, c4⟩, f4⟩ := h.atV
  have H := Lib.hid h
  have Hd := Lib.hid hd
  clear h c1 c2 c3 c4 f4 hf hd
  go_enter Tryz.func292, Tryz.ntmps292
  go_wp2_with fail
  refine hfd.mono ?_
  rintro e w1 ⟨rfl, hb1⟩
  have h1 := H.out.later hb1
  have hdr := h1.dir hm s hs
  rw [Hd.out] at hdr
  obtain ⟨⟨c0', c1, c2, c3, c4⟩, f4⟩ := h1.atV
  have hsz := hb1.size
  have H1 := Lib.hid h1
  clear h1 hfd c0 c1 c2 c3 c4 f4 hb1
  go_wp2_with fail
  refine hdr.mono ?_
  rintro e w2 ⟨rfl, hb2⟩
  have HP := Lib.hid (And.intro (H1.out.later hb2) (Nat.le_trans hsz hb2.size))
  clear hb2 hdr hsz c0'
  go_wp2_with fail
  go_ret2
  exact ⟨rfl, HP.out⟩
theorem let_none (h : VolIn w0 S R L v X T w) (i : Int) (hz : heldN X.held i = 0) :
    Calls Tryz.prog 293 #[.pointer (some ⟨v, 0, none⟩), .int .i64 i] w fun e w' => e = .returned (.int .i64 8) ∧ w = w' := by
  obtain ⟨⟨c0, c1, c2, c3, c4⟩, f4⟩ := h.atV
  have hl := h.heldAt i
  rw [hz] at hl
  clear h c0 c1 c2 c4 f4 hz
  go_enter Tryz.func293, Tryz.ntmps293
  go_wp2_with fail
  go_ret
  exact ⟨rfl, rfl⟩
theorem let_more (h : VolIn w0 S R L v X T w) (i : Int) {m : Int} (hmq : heldN X.held i = m) (hz : 1 < m) (hb : m ≤ 1000000) :
    Calls Tryz.prog 293 #[.pointer (some ⟨v, 0, none⟩), .int .i64 i] w fun e w' => e = .returned (.int .i64 0) ∧ VolTo w0 S L v X T w.heap.size { X with held := put X.held i (m - 1) } w' := by
  obtain ⟨⟨c0, c1, c2, c3, c4⟩, f4⟩ := h.atV
  have hl := h.heldAt i
  obtain ⟨o, o', _, hup, h3⟩ := h.put i (m - 1)
  have HP := Lib.hid (show VolTo w0 S L v X T w.heap.size { X with held := put X.held i (m - 1) } (setBlock w X.hm o') from upd_to h3 rfl rfl)
  rw [hmq] at hl
  clear h h3 c0 c1 c2 c4 f4 hmq
  have b0 : (m == 0) = false := by simp; omega
  have b1 : (m == 1) = false := by simp; omega
  go_enter Tryz.func293, Tryz.ntmps293
  go_wp2_with fail
  go_ret
  exact ⟨rfl, HP.out⟩
end
end Go.Proofs.YtnjabanjgckeoaaGreatDoor
end

/- A volume's work apart, and what is kept of it. -/
section
namespace Go.Proofs.YtnjabanjgckeoaaGreatDoor
open Go.RowKit
open Go.ChangeMaps (setBlock)
set_option linter.unusedVariables false
set_option linter.unusedSimpArgs false
set_option maxRecDepth 100000

/-- Operations with their bytes, as Pack takes them. -/
def pks (ops : List OpD) (xs : List OpE) : List (OpD × List Int) := (ops.zip xs).map fun p => (p.1, p.2.zs)
theorem pks_len {ops : List OpD} {xs : List OpE} (h : xs.length = ops.length) : (pks ops xs).length = ops.length := by simp [pks, h]
theorem pks_get {ops : List OpD} {xs : List OpE} (h : xs.length = ops.length) (i : Nat) (hi : i < ops.length) : (pks ops xs)[i]'(by rw [pks_len h]; exact hi) = (ops[i], (xs[i]'(by omega)).zs) := by simp [pks]
/-- Operations that Do is handed: where they lie, what they are. -/
structure Ops (w0 : World) (S : Blocks) (L : List Rw) (a : Option Addr) (ops : List OpD) (xs : List OpE) : Prop where
  len : xs.length = ops.length
  at_ : ∀ w' S' L', Own ⟨w0, S'⟩ w' L' → (∀ b x, (b, x) ∈ S → (b, x) ∈ S') → (∀ x ∈ L, x ∈ L') → ∀ i (h : i < ops.length), ∃ g off, a = some ⟨g, off, none⟩ ∧ w'.rangeAt g (off + i * 4) ops[i].cells
  in_ : ∀ i (h : i < ops.length), OpIn w0 S L ops[i] (xs[i]'(by omega))
theorem Ops.mono {w0 : World} {S S' : Blocks} {L L' : List Rw} {a : Option Addr} {ops : List OpD} {xs : List OpE} (h : Ops w0 S L a ops xs) (hs : ∀ b x, (b, x) ∈ S → (b, x) ∈ S') (hl : ∀ x ∈ L, x ∈ L') : Ops w0 S' L' a ops xs :=
  ⟨h.len, fun w' S2 L2 k1 k2 k3 => h.at_ w' S2 L2 k1 (fun b x hb => k2 b x (hs b x hb)) (fun x hx => k3 x (hl x hx)), fun i hi => ⟨(h.in_ i hi).kind, (h.in_ i hi).l, (h.in_ i hi).l2, (h.in_ i hi).p, (h.in_ i hi).q, (h.in_ i hi).n, (h.in_ i hi).data.mono hs (fun _ _ _ h => h) hl⟩⟩
theorem Ops.pack {w0 : World} {S : Blocks} {L : List Rw} {a : Option Addr} {ops : List OpD} {xs : List OpE} (h : Ops w0 S L a ops xs) (hk : ∀ o ∈ ops, 0 ≤ o.kind ∧ o.kind < 4294967296) (hs : ∀ o ∈ ops, o.p.size ≤ 100000 ∧ o.q.size ≤ 100000) (hz : ∀ x ∈ xs, x.zs.length ≤ 100000) : PackIn ⟨w0, S⟩ L a (pks ops xs) := by
  have hmem : ∀ o ∈ pks ops xs, ∃ i, ∃ hi : i < ops.length, o = (ops[i], (xs[i]'(by rw [h.len]; exact hi)).zs) := fun o ho => by
    obtain ⟨i, hi, rfl⟩ := List.getElem_of_mem ho
    rw [pks_len h.len] at hi
    exact ⟨i, hi, pks_get h.len i hi⟩
  refine ⟨fun w' L' k1 k2 i hi => ?_, fun w' L' k1 k2 o ho => ?_, fun o ho => ?_, fun o ho => ?_⟩
  · rw [pks_len h.len] at hi
    rw [pks_get h.len i hi]
    exact h.at_ w' S L' k1 (fun _ _ h => h) k2 i hi
  · obtain ⟨i, hi, rfl⟩ := hmem o ho
    have h1 := h.in_ i hi
    exact (h1.data.mono (S' := S) (F' := []) (fun _ _ h => h) (fun _ _ _ h => h) k2).by (S' := S) (fun _ _ h _ => h) k1
  · obtain ⟨i, hi, rfl⟩ := hmem o ho
    exact hk _ (List.getElem_mem _)
  · obtain ⟨i, hi, rfl⟩ := hmem o ho
    exact ⟨(hs _ (List.getElem_mem _)).1, (hs _ (List.getElem_mem _)).2, hz _ (List.getElem_mem _)⟩
theorem PackIn.mono {W0 : Base} {L L' : List Rw} {a : Option Addr} {ops : List (OpD × List Int)} (h : PackIn W0 L a ops) (hl : ∀ x ∈ L, x ∈ L') : PackIn W0 L' a ops :=
  ⟨fun w' L2 k1 k2 => h.at_ w' L2 k1 fun x hx => k2 x (hl x hx), fun w' L2 k1 k2 => h.data w' L2 k1 fun x hx => k2 x (hl x hx), h.kind, h.len⟩

section
variable {w0 w w' : World} {S S' : Blocks} {R L L' M : List Rw} {v c n : Nat} {X X' : VX} {T T' Tc : Tr} {K : Blocks}
theorem VolIn.drew (h : VolIn w0 S R L v X T w) : VolIn w0 S R L v X T w.drew := h.later (Below.refl _ w).drew
theorem VolIn.front (h : VolIn w0 S R L v X T w) (hO : Own ⟨w0, S⟩ w' (M ++ (R ++ L))) : VolIn w0 S R (M ++ L) v X T w' :=
  { h with
    own := hO.perm (by rw [← List.append_assoc, ← List.append_assoc]; exact List.perm_append_comm.append_right L)
    tree := h.tree.mono (fun b x _ hx => hx) (fun v zs hh => hh.mono fun x hx => List.mem_append_right _ hx) }
theorem work_any (h : VolIn w0 S R L v X T w) : Calls Tryz.prog 70 #[.pointer (some ⟨X.t, 0, none⟩)] w fun e w' =>
    ∃ c S' Tc, e = .returned (.pointer (some ⟨c, 0, none⟩)) ∧ VolIn w0 S' R L v X T w' ∧ Tree S' (Pc L) c Tc ∧ Rep Tc X.E ∧ (∀ b x, (b, x) ∈ S → (b, x) ∈ S') ∧ (∀ b ∈ c :: Tc.foot, w.heap.size ≤ b) := by
  refine (clone_t h.own h.tree).mono fun e w' hc => ?_
  obtain ⟨c, S', Tc, h1, h2, h3, h4, h5, h6⟩ := hc
  exact ⟨c, S', Tc, h1, h.base h2 (fun b x hx _ => h4 b x hx), h3, h.rep.same h6, h4, h5⟩
/-- Do of the tree that is apart. -/
theorem work_do (h : VolIn w0 S R L v X T w) (hm : Mx w0) (hc : Tree S (Pc L) c Tc) (hr : Rep Tc X.E) (hn : ∀ b ∈ c :: Tc.foot, n ≤ b) (hlow : ∀ b ∈ v :: X.hm :: X.t :: T.foot, b < n) (hnw : n ≤ w.heap.size) {a : Option Addr} {ops : List OpD} {xs : List OpE} (ho : Ops w0 S L a ops xs) (cap : Nat) (hB : X.B + ops.length ≤ 200000) :
    Calls Tryz.prog 71 #[.pointer (some ⟨c, 0, none⟩), .slice a ops.length cap] w fun e w' => e = .returned (.int .i64 (DoE X.E xs).1) ∧ ∃ S' L' Tc', VolIn w0 S' R L' v X T w' ∧ (∀ x ∈ L, x ∈ L') ∧ Tree S' (Pc L') c Tc' ∧ Rep Tc' (DoE X.E xs).2 ∧
      (∀ b x, (b, x) ∈ S → b ∉ c :: Tc.foot → (b, x) ∈ S') ∧ (∀ b ∈ c :: Tc'.foot, n ≤ b) := by
  have h1 := h.own.shelve
  have h2 : Tree (blks w R ++ S) (Pc L) c Tc := hc.mono (fun b x _ hx => List.mem_append_right _ hx) (fun _ _ hh => hh)
  have ho2 := ho.mono (S' := blks w R ++ S) (fun b x hx => List.mem_append_right _ hx) (fun x hx => hx)
  refine (Do_any h1 h2 hr h.inv hm a ops xs cap ho.len hB ho2.at_ ho2.in_).mono fun e w' hd => ?_
  obtain ⟨S1, L1, T1, g0, g1, g2, g3, g4, g5⟩ := hd
  have hoffc : ∀ b x, (b, x) ∈ blks w R → b ∉ c :: Tc.foot := fun b x hb hm => by
    obtain ⟨o, hx⟩ := kept_in hc.at_ b hm
    obtain ⟨r, hr, e1, _⟩ := blks_mem hb
    exact h.own.offB hx r hr e1
  have hdis : ∀ b ∈ v :: X.hm :: X.t :: T.foot, b ∉ c :: Tc.foot := fun b hb hm => by
    have := hn b hm; have := hlow b hb; omega
  refine ⟨g0, offR R S1, L1, T1, h.back g1 g2 (fun m hm => g4.kept m.1 m.2 (List.mem_append_left _ hm) (hoffc m.1 m.2 hm)) (fun b x hx hb => g4.kept b x (List.mem_append_right _ hx) (hdis b hb)), g2, g3.mono (fun b x hb hx => offR_mem.2 ⟨hx, ?_⟩) (fun _ _ hh => hh), g5, fun b x hx hb => offR_mem.2 ⟨g4.kept b x (List.mem_append_right _ hx) hb, h.own.offB hx⟩, fun b hb => ?_⟩
  · rcases g4.fresh b hb with h3 | h3
    · obtain ⟨x0, hx0⟩ := kept_in hc.at_ b h3
      exact h.own.offB hx0
    · exact h.own.freshR h3
  · rcases g4.fresh b hb with h3 | h3
    · exact hn b h3
    · omega
set_option maxHeartbeats 4000000 in
/-- Operations are kept as one record, where there is room. -/
theorem keep_yes (h : VolIn w0 S R L v X T w) {a : Option Addr} {ops : List (OpD × List Int)} (hP : PackIn ⟨w0, S⟩ L a ops) (tv : Value) (cap : Nat) (hn0 : 0 < ops.length) (hn : ops.length ≤ 100000) (hq : ∀ o ∈ ops, o.1.kind = 4 ∨ o.1.kind = 5 ∨ o.1.q = ⟨#[]⟩) (hl : (recO ops).length ≤ 4096) (hf : X.used + roomM (recO ops).length ≤ X.h) (hst : X.st ≤ 1000000000) :
    Calls Tryz.prog 72 #[.pointer (some ⟨v, 0, none⟩), tv, .slice a ops.length cap] w fun e w' => e = .returned (.int .i64 0) ∧ ∃ R' L' D', VolIn w0 S R' L' v { X with D := D', side := X.side, used := X.used + roomM (recO ops).length, recs := X.recs ++ [recO ops], st := X.st + 100 } T w' ∧ (∀ x ∈ L, x ∈ L') := by
  have Hrec := Lib.hid (fun (W : World) (hW : VolIn w0 S R L v X T W) => recordO_any hW.own (hP.mono (L' := R ++ L) fun x hx => List.mem_append_right _ hx) cap hn0 hn hq)
  have hbz : Byts (recO ops) := by
    have := packsD_byts ops hP.kind hP.len fun o ho => ((hP.data w L h.ownL (fun x hx => hx)) o ho).2.1
    intro z hz
    rcases List.mem_cons.1 hz with rfl | hz
    · exact ⟨by decide, by decide⟩
    · exact this z hz
  obtain ⟨⟨c0, c1, c2, c3, c4⟩, f4⟩ := h.atV
  have hlen := h.live
  have Happ := Lib.hid (fun (w1 : World) (r : Value) (L1 : List Rw) (h1 : VolIn w0 S R (rowU r (recO ops) :: (L1 ++ L)) v X T w1) =>
    (append_yes h1.lg h1.live hst r (recO ops) (row_by (List.mem_cons_self ..) hbz) hl hf).mono (R' := fun e w' => e = .returned (.int .i64 0) ∧ ∃ R' L' D', VolIn w0 S R' L' v { X with D := D', side := X.side, used := X.used + roomM (recO ops).length, recs := X.recs ++ [recO ops], st := X.st + 100 } T w' ∧ (∀ x ∈ L, x ∈ L')) fun e w' hd => by
      rcases hd with ⟨D', e1, e2, e3, e4⟩ | ⟨D', e1, _⟩
      · obtain ⟨R', hv⟩ := h1.logTurn e2 e3 (e4 h1.left)
        exact ⟨e1, R', _, D', hv, fun x hx => List.mem_cons_of_mem _ (List.mem_append_right _ hx)⟩
      · exact absurd h1.left e1)
  have HV := Lib.hid h
  clear hP hq hbz hlen h c0 c1 c3 c4 f4 hl hf
  go_enter Tryz.func72, Tryz.ntmps72
  go_wp2_with fail
  go_region_held3 (fun w' : World => w'.cell? ⟨v, 2, none⟩ = some (.pointer (some ⟨X.l, 0, none⟩))) (first | exact c2 | exact d2 | exact c2.trans rfl | go_keep) (first
    | (go_at_call 106; refine (Hrec.out _ (by first | exact HV.out | exact HV.out.drew)).mono ?_; rintro e w1 ⟨r, L1, rfl, hO1⟩; have h1 : VolIn w0 S R (rowU r (recO ops) :: (L1 ++ L)) v X T w1 := HV.out.front (M := rowU r (recO ops) :: L1) hO1; have d2 := h1.atV.1.2.2.1; have H1 := Lib.hid h1; clear h1 hO1)
    | (go_at_call 105; refine (Happ.out w1 r L1 H1.out).mono ?_; rintro e w2 ⟨rfl, R2, L2, D2, h2, h3⟩; have d2 := h2.atV.1.2.2.1; have H2 := Lib.hid (And.intro h2 h3); clear h2 h3))
  all_goals
    have f4 := H2.out.1.atV.2
    have g4 := H2.out.1.atV.1.2.2.2.2
    have HS := Lib.hid H2.out.1.still
    have HL := Lib.hid H2.out.2
    clear H1 H2 Happ HV Hrec
    go_wp2_with fail
    go_ret
    exact ⟨rfl, _, _, _, HS.out, HL.out⟩
end
end Go.Proofs.YtnjabanjgckeoaaGreatDoor
end

/- The document's example, on plain data. -/
section
namespace Go.Proofs.YtnjabanjgckeoaaGreatDoor
open Go.RowKit
set_option linter.unusedVariables false
set_option linter.unusedSimpArgs false
set_option maxRecDepth 100000

def E0 (q : Int) : Et := ⟨q, 2, [(1, ⟨true, [], [], 0⟩)]⟩
theorem new_rep (b : Nat) (q : Int) : Rep (newT b q) (E0 (max q 0)) := ⟨rfl, rfl, List.Perm.refl _⟩
def one : List Int := [111, 110, 101]
def two : List Int := [116, 119, 111]
/-- /a, /a/f, /g, /h -/
def pA : List UInt8 := [47, 97]
def pAF : List UInt8 := [47, 97, 47, 102]
def pG : List UInt8 := [47, 103]
def pH : List UInt8 := [47, 104]
def pB : List UInt8 := [47, 98]
def EA1 : Et := ⟨10, 4, [(1, ⟨true, [(toB [97], 2), (toB [103], 3)], [], 0⟩), (2, ⟨true, [(toB [102], 3)], [], 0⟩), (3, ⟨false, [], one, 2⟩)]⟩
def EA2 : Et := ⟨10, 5, [(1, ⟨true, [(toB [97], 2), (toB [103], 3)], [], 0⟩), (2, ⟨true, [(toB [102], 4)], [], 0⟩), (3, ⟨false, [], one, 1⟩), (4, ⟨false, [], two, 1⟩)]⟩
def EA3 : Et := ⟨10, 5, [(1, ⟨true, [(toB [97], 2)], [], 0⟩), (2, ⟨true, [(toB [102], 4)], [], 0⟩), (3, ⟨false, [], one, 0⟩), (4, ⟨false, [], two, 1⟩)]⟩
end Go.Proofs.YtnjabanjgckeoaaGreatDoor
end

/- Numbers in order. -/
section
namespace Go.Proofs.YtnjabanjgckeoaaGreatDoor
open Go.RowKit
open Go.ChangeMaps (setBlock)
open Go.Sort
set_option linter.unusedVariables false
set_option linter.unusedSimpArgs false
set_option maxRecDepth 100000

def rowI (v : Value) (zs : List Int) : Rw := ⟨3, 1, v, zs.length, zs.map (Value.int .i64)⟩
theorem sort_row {W0 : Base} {w : World} {L : List Rw} {v : Value} {zs : List Int} (h : Own W0 w (rowI v zs :: L)) (hl : zs.length < 4611686018427387904) :
    Calls Tryz.prog 91 #[v] w fun e w' => e = .returned (.tuple #[]) ∧ Own W0 w' (rowI v (zs.mergeSort fun x y => decide (x ≤ y)) :: L) := by
  have h' : Own W0 w (⟨3, 1, v, zs.length, zs.map (Value.int .i64)⟩ :: L) := h
  have hown : w.ownsRow W0.world.heap.size 3 1 v zs.length (zs.map (Value.int .i64)) := h.head
  have hsl : (zs.mergeSort fun x y => decide (x ≤ y)).length = zs.length := List.length_mergeSort _
  rcases hown.2 with ⟨hv, hn⟩ | ⟨g, cap, cur, hv, hg, hb, hn, hcap, hsz, htk⟩
  · have hz : zs = [] := List.eq_nil_of_length_eq_zero hn
    subst hz
    rw [hv]
    refine (Tryz.slices_Sort_int_none none 0 w).mono ?_
    rintro e w' ⟨rfl, rfl⟩
    refine ⟨rfl, ?_⟩
    rw [hv] at h
    simpa using h
  · have hv2 : v = .slice (some ⟨g, 0, none⟩) zs.length cap := hv
    have hH : _root_.Go.Sort.Holds (Value.int .i64) w g 0 zs.toArray := holds_of_blockI hb (by rw [Nat.mul_one] at htk; exact htk)
    have hlt : g < w.heap.size := lt_of_heap hb
    rw [hv2]
    refine (Tryz.slices_Sort_int g 0 cap zs w hH hlt hl).mono ?_
    rintro e w' ⟨rfl, n, os, rfl⟩
    refine ⟨rfl, ?_⟩
    have hrow := ownsRow_sortedI (n := n) (os := os) hsl hg hb hn hcap hsz
    rw [hv2] at h'
    have hres := Own.grown (h := h') (by rw [← hsl] at hrow; exact hrow) (grownBy_sortedI _) (.inl (by rw [hsl]))
    unfold rowI
    rw [hsl]
    rw [hsl] at hres
    exact hres
end Go.Proofs.YtnjabanjgckeoaaGreatDoor
end

/- Loose. -/
section
namespace Go.Proofs.YtnjabanjgckeoaaGreatDoor
open Go.RowKit
open Go.ChangeMaps (setBlock)
set_option linter.unusedVariables false
set_option linter.unusedSimpArgs false
set_option maxRecDepth 100000

def looseL (l : List (Int × Nd)) : List Int := (l.filter fun p => p.2.loose).map (·.1)
theorem looseL_snoc (l : List (Int × Nd)) (p : Int × Nd) : looseL (l ++ [p]) = looseL l ++ (if p.2.loose then [p.1] else []) := by
  unfold looseL
  rw [List.filter_append, List.map_append]
  cases h : p.2.loose <;> simp [h]
theorem looseL_len (l : List (Int × Nd)) : (looseL l).length ≤ l.length := by
  unfold looseL
  rw [List.length_map]
  exact List.length_filter_le _ _
theorem info_i : (Tryz.prog.info? 3).map (fun i => (i.zero, i.size, i.bytes)) = some (some (.int .i64 0), 1, 8) := by kernel_rfl
def LooseRel (w : World) (T : Tr) (v : Value) (wr : World) : Prop :=
  ∃ oi o done left, WalksR w w.heap.size T oi o done left wr ∧ Own ⟨w, [(w.heap.size, oi)]⟩ wr [rowI v (looseL done)]
def LoosePost (w : World) (T : Tr) (e : Ending) (w' : World) : Prop := ∃ (v : Value) (zs : List Int), e = .returned v ∧ zs.Perm (looseL T.nodes) ∧ Own w w' [rowI v (zs.mergeSort fun x y => decide (x ≤ y))]
set_option maxHeartbeats 2000000 in
theorem loose_t {w : World} {D : Value → List Int → Prop} {t : Nat} {T : Tr} (H : TreeIn (inW w) D t T) (hn : T.nodes.length ≤ 4294967296) :
    Calls Tryz.prog 75 #[.pointer (some ⟨t, 0, none⟩)] w (LoosePost w T) := by
  obtain ⟨i0, hi, hz0, hz1, hz2⟩ := info_parts info_i
  obtain ⟨_, _, c2⟩ := H.at0
  obtain ⟨oi, o, hrun, hW⟩ := Walks.start H
  have hWR : WalksR w w.heap.size T oi o [] T.nodes (w.alloc oi) := ⟨hW.1, hW.2.1, hW.2.2.1, hW.2.2.2.1, hW.2.2.2.2, Nat.le_refl _⟩
  have HW := Lib.hid (show LooseRel w T (.slice none 0 0) (w.alloc oi) from ⟨oi, o, [], T.nodes, hWR, ((Own.start w).newB oi).nil 3 1⟩)
  have HH := Lib.hid H
  clear H hW hWR
  go_enter Tryz.func75, Tryz.ntmps75
  go_wp2_with fail
  go_loopw [3] (fun s wr => LooseRel w T s wr) (fun _ wr => leftN wr T.bm w.heap.size)
  case atStart => exact HW.out
  case round =>
    obtain ⟨oi2, o2, done, left, hW, hO⟩ := hrel
    have hle := hW.left_eq
    have hperm := hW.2.2.2.1
    have hlen2 : done.length ≤ 4294967296 := by have := hperm.length_eq; rw [List.length_append] at this; omega
    have hll : (looseL done).length ≤ 4294967296 := Nat.le_trans (looseL_len done) hlen2
    rcases hW.next with ⟨rfl, hnx⟩ | ⟨l1, l2, p, oi', w1, rfl, hw1, hnx, hW', hp, hen⟩
    · have hO2 : Own ⟨w, []⟩ wr [rowI u3 (looseL done)] := hO.forget (S' := []) (fun m hm => by cases hm)
      have hs := sort_row hO2 (by omega)
      have hper : (looseL done).Perm (looseL T.nodes) := by
        simp only [List.append_nil] at hperm
        exact (hperm.filter _).map _
      obtain ⟨fa, fc, hf, _, _⟩ := Own.sized (h := (show Own ⟨w, []⟩ wr (⟨3, 1, u3, (looseL done).length, (looseL done).map (Value.int .i64)⟩ :: []) from hO2))
      have HP := Lib.hid hper
      clear hW hle hperm hO hO2 hlen2 hll hper hrun
      subst hf
      go_wp2_with (go_at_call 91; refine hs.mono ?_; rintro e w3 ⟨rfl, hO3⟩; have HO3 := Lib.hid hO3; clear hO3)
      go_ret
      exact ⟨_, _, rfl, HP.out, HO3.out⟩
    · have hr : ∀ oi2, ((w.heap.size, oi2) : Nat × Obj) ∈ [(w.heap.size, oi2)] := fun _ => List.mem_cons_self ..
      have hO1 : Own ⟨w, [(w.heap.size, oi2)]⟩ w1 [rowI u3 (looseL done)] := by rcases hw1 with rfl | rfl; exact hO; exact hO.drew
      have hO2 : Own ⟨w, [(w.heap.size, oi')]⟩ (setBlock w1 w.heap.size oi') [rowI u3 (looseL done)] := by
        have := hO1.setB (hr _) oi'
        simpa [upd] using this
      have hN := (hW'.tree HH.out).node p hp
      have hlo := loose_any hN
      obtain ⟨e1, e2⟩ := hW'.entry
      have hent := hen _ e1 e2
      have hl2 := hW'.left_eq
      have hmeas : (l1 ++ l2).length < leftN wr T.bm w.heap.size := by rw [hle]; simp
      have hsn := looseL_snoc done p
      generalize hw2 : setBlock w1 w.heap.size oi' = w2 at *
      obtain ⟨fa, fc, hf, _, _⟩ := Own.sized (h := (show Own ⟨w, [(w.heap.size, oi')]⟩ w2 (⟨3, 1, u3, (looseL done).length, (looseL done).map (Value.int .i64)⟩ :: []) from hO2))
      have HN := Lib.hid hW'
      have hf' : u3 = .slice fa (looseL done).length fc := hf
      clear hf
      subst hf'
      rcases Bool.eq_false_or_eq_true p.2.loose with hlz | hlz
      · rw [hlz] at hlo hsn
        simp only [if_true] at hsn
        have hb1 : (looseL done).length + 1 ≤ maxLen := by unfold maxLen; omega
        have hb2 : ((looseL done).length + 1) * 8 ≤ 140737488355328 := by omega
        have HO2 := Lib.hid (show Own ⟨w, [(w.heap.size, oi')]⟩ (w2.alloc (.cells #[.int .i64 p.1] 3)) (⟨3, 1, .slice fa (looseL done).length fc, (looseL done).length, (looseL done).map (Value.int .i64)⟩ :: []) from hO2.alloc _)
        have hsrc : Src (w2.alloc (.cells #[.int .i64 p.1] 3)) (.slice (some ⟨w2.heap.size, 0, none⟩) 1 1) 1 [.int .i64 p.1] := by
          refine .inr ⟨_, _, rfl, fun j u hj => ?_, fun u hu => by rw [List.mem_singleton.1 hu]; rfl⟩
          rw [Addr.add_mid, Nat.zero_add, World.cell?_alloc_new]
          simpa using hj
        have Hsrc := Lib.hid hsrc
        have Hb1 := Lib.hid hb1
        have Hb2 := Lib.hid hb2
        have Hm := Lib.hid hmeas
        have Hsn := Lib.hid hsn
        clear hO hO1 hO2 hW hW' hle hperm hN e1 e2 hen hl2 hsn hsrc hb1 hb2 hmeas hll hlen2 hw1 hlz hw2 hrun
        go_wp2_with (first
          | (go_at_call 109; refine hlo.mono ?_; rintro e w' ⟨rfl, rfl⟩)
          | (at_builtin; refine wpList_append_src rfl (.tmp 18) (.tmp 20) 22 rfl (.slice fa (looseL done).length fc) (looseL done).length ((looseL done).map (Value.int .i64)) (.slice (some ⟨w2.heap.size, 0, none⟩) 1 1) 1 [.int .i64 p.1] rfl rfl HO2.out i0 (.int .i64 0) 8 Tryz.underlying22 hi hz0 hz1 hz2 rfl (by decide) Hsrc.out (by simp) Hb1.out Hb2.out ?_))
        intro v4 w4 hO4
        have HR := Lib.hid (show LooseRel w T v4 w4 ∧ leftN w4 T.bm w.heap.size < leftN wr T.bm w.heap.size from by
          have hO5 : Own ⟨w, [(w.heap.size, oi')]⟩ w4 [rowI v4 (looseL (done ++ [p]))] := by
            rw [Hsn.out]
            unfold rowI
            rw [List.length_append, List.map_append]
            exact hO4
          have hB : Below w.heap.size w w4 := hO4.below
          have hW4 : WalksR w w.heap.size T oi' o2 (done ++ [p]) (l1 ++ l2) w4 := ⟨hO4.at (List.mem_cons_self ..), HN.out.2.1, HN.out.2.2.1, HN.out.2.2.2.1, hB, Nat.le_refl _⟩
          exact ⟨⟨oi', o2, _, _, hW4, hO5⟩, by rw [hW4.left_eq]; exact Hm.out⟩)
        obtain ⟨a4, c4, hv4, _, _⟩ := Own.sized (h := hO4)
        subst hv4
        clear hO4 HO2 Hsrc Hb1 Hb2 Hm Hsn HN
        go_wp2_with fail
        go_roundw
        case rel => exact HR.out.1
        case measure => exact HR.out.2
      · rw [hlz] at hlo hsn
        simp only [Bool.false_eq_true, if_false, List.append_nil] at hsn
        have HX := Lib.hid (show LooseRel w T (.slice fa (looseL done).length fc) w2 from ⟨oi', o2, _, _, hW', by rw [hsn]; exact hO2⟩)
        have HL := Lib.hid (show leftN w2 T.bm w.heap.size < leftN wr T.bm w.heap.size by rw [hl2]; exact hmeas)
        clear hO hO1 hO2 hW hW' hle hperm hN e1 e2 hen hl2 hsn hmeas hll hlen2 hw1 hlz hw2 HN hrun
        go_wp2_with (go_at_call 109; refine hlo.mono ?_; rintro e w' ⟨rfl, rfl⟩)
        go_roundw
        case rel => exact HX.out
        case measure => exact HL.out
end Go.Proofs.YtnjabanjgckeoaaGreatDoor
end

/- Contracts of Go's library at this dump: slices.Sorted(maps.Keys(m)). -/
section
namespace Go.Proofs
open Go.Shelf
def Tryz.keys79_ren : Go.Shelf.Ren := ⟨fun | 7 => 79 | 10 => 112 | n => n, fun | 23 => 130 | 26 => 9 | 3 => 64 | 28 => 160 | 0 => 0 | 27 => 159 | 33 => 134 | 4 => 4 | n => n, fun | n => n⟩
theorem Tryz.keys79 : Go.Proofs.SlLaysZ.n7 Tryz.prog Tryz.keys79_ren := {
  mixed := by kernel_rfl
  f7 := ⟨Tryz.f79.name, by decide, Tryz.func79.trans (congrArg some (by kernel_rfl))⟩
  f10 := ⟨Tryz.f112.name, by decide, Tryz.func112.trans (congrArg some (by kernel_rfl))⟩
  t0 := Tryz.underlying0
  a0 := Tryz.isAgg0
  z0 := Tryz.sizeOf0
  v0 := Tryz.zeroValue0
  t4 := Tryz.underlying4
  a4 := Tryz.isAgg4
  z4 := Tryz.sizeOf4
  v4 := Tryz.zeroValue4
  t23 := Tryz.underlying130
  a23 := Tryz.isAgg130
  z23 := Tryz.sizeOf130
  v23 := Tryz.zeroValue130
  t26 := Tryz.underlying9
  a26 := Tryz.isAgg9
  z26 := Tryz.sizeOf9
  v26 := Tryz.zeroValue9
  t27 := Tryz.underlying159
  a27 := Tryz.isAgg159
  z27 := Tryz.sizeOf159
  v27 := Tryz.zeroValue159
  t28 := Tryz.underlying160
  a28 := Tryz.isAgg160
  z28 := Tryz.sizeOf160
  v28 := Tryz.zeroValue160
  t33 := Tryz.underlying134
  a33 := Tryz.isAgg134
  z33 := Tryz.sizeOf134
  v33 := Tryz.zeroValue134 }
def Tryz.sorted78_ren : Go.Shelf.Ren := ⟨fun | 6 => 78 | 8 => 111 | 9 => 82 | 11 => 152 | 13 => 115 | 12 => 114 | 23 => 162 | 24 => 163 | 14 => 153 | 15 => 154 | 16 => 155 | 17 => 156 | 18 => 157 | 19 => 158 | 20 => 159 | 21 => 160 | 22 => 161 | 25 => 211 | 26 => 212 | 27 => 213 | 28 => 214 | 29 => 215 | 30 => 216 | 31 => 248 | n => n, fun | 26 => 9 | 28 => 160 | 24 => 29 | 0 => 0 | 3 => 3 | 37 => 33 | 48 => 249 | 50 => 174 | 4 => 4 | 40 => 242 | 39 => 241 | 45 => 37 | 5 => 5 | 9 => 9 | 51 => 293 | 55 => 297 | 57 => 325 | 58 => 326 | 33 => 134 | n => n, fun | n => n⟩
theorem Tryz.sorted78 : Go.Proofs.SlLaysZ.n6 Tryz.prog Tryz.sorted78_ren := {
  mixed := by kernel_rfl
  f6 := ⟨Tryz.f78.name, by decide, Tryz.func78.trans (congrArg some (by kernel_rfl))⟩
  f8 := ⟨Tryz.f111.name, by decide, Tryz.func111.trans (congrArg some (by kernel_rfl))⟩
  f11 := ⟨Tryz.f152.name, by decide, Tryz.func152.trans (congrArg some (by kernel_rfl))⟩
  t0 := Tryz.underlying0
  a0 := Tryz.isAgg0
  z0 := Tryz.sizeOf0
  v0 := Tryz.zeroValue0
  t24 := Tryz.underlying29
  a24 := Tryz.isAgg29
  z24 := Tryz.sizeOf29
  v24 := Tryz.zeroValue29
  t26 := Tryz.underlying9
  a26 := Tryz.isAgg9
  z26 := Tryz.sizeOf9
  v26 := Tryz.zeroValue9
  t28 := Tryz.underlying160
  a28 := Tryz.isAgg160
  z28 := Tryz.sizeOf160
  v28 := Tryz.zeroValue160
  i26 := by kernel_rfl }
def Tryz.sort82_ren : Go.Shelf.Ren := ⟨fun | 6 => 82 | 8 => 115 | 9 => 114 | 19 => 162 | 20 => 163 | 21 => 153 | 22 => 154 | 23 => 155 | 24 => 156 | 25 => 157 | 26 => 158 | 27 => 159 | 28 => 160 | 29 => 161 | 36 => 211 | 31 => 212 | 32 => 213 | 37 => 214 | 38 => 215 | 39 => 216 | 41 => 248 | n => n, fun | 27 => 29 | 29 => 9 | 3 => 3 | 32 => 33 | 26 => 29 | 0 => 0 | 44 => 249 | 46 => 174 | 4 => 4 | 36 => 242 | 35 => 241 | 41 => 37 | 5 => 5 | 9 => 9 | 53 => 293 | 57 => 297 | 63 => 325 | 64 => 326 | n => n, fun | n => n⟩
theorem Tryz.sort82 : Go.Proofs.SlLaysM.n6 Tryz.prog Tryz.sort82_ren := {
  mixed := by kernel_rfl
  f6 := ⟨Tryz.f82.name, by decide, Tryz.func82.trans (congrArg some (by kernel_rfl))⟩
  f8 := Tryz.func115.trans (congrArg some (by kernel_rfl))
  f9 := ⟨Tryz.f114.name, by decide, Tryz.func114.trans (congrArg some (by kernel_rfl))⟩
  f19 := Tryz.func162.trans (congrArg some (by kernel_rfl))
  f20 := Tryz.func163.trans (congrArg some (by kernel_rfl))
  f21 := ⟨Tryz.f153.name, by decide, Tryz.func153.trans (congrArg some (by kernel_rfl))⟩
  f22 := ⟨Tryz.f154.name, by decide, Tryz.func154.trans (congrArg some (by kernel_rfl))⟩
  f23 := ⟨Tryz.f155.name, by decide, Tryz.func155.trans (congrArg some (by kernel_rfl))⟩
  f24 := ⟨Tryz.f156.name, by decide, Tryz.func156.trans (congrArg some (by kernel_rfl))⟩
  f25 := ⟨Tryz.f157.name, by decide, Tryz.func157.trans (congrArg some (by kernel_rfl))⟩
  f26 := ⟨Tryz.f158.name, by decide, Tryz.func158.trans (congrArg some (by kernel_rfl))⟩
  f27 := ⟨Tryz.f159.name, by decide, Tryz.func159.trans (congrArg some (by kernel_rfl))⟩
  f28 := ⟨Tryz.f160.name, by decide, Tryz.func160.trans (congrArg some (by kernel_rfl))⟩
  f29 := ⟨Tryz.f161.name, by decide, Tryz.func161.trans (congrArg some (by kernel_rfl))⟩
  f31 := Tryz.func212.trans (congrArg some (by kernel_rfl))
  f32 := Tryz.func213.trans (congrArg some (by kernel_rfl))
  f36 := ⟨Tryz.f211.name, by decide, Tryz.func211.trans (congrArg some (by kernel_rfl))⟩
  f37 := ⟨Tryz.f214.name, by decide, Tryz.func214.trans (congrArg some (by kernel_rfl))⟩
  f38 := ⟨Tryz.f215.name, by decide, Tryz.func215.trans (congrArg some (by kernel_rfl))⟩
  f39 := ⟨Tryz.f216.name, by decide, Tryz.func216.trans (congrArg some (by kernel_rfl))⟩
  f41 := ⟨Tryz.f248.name, by decide, Tryz.func248.trans (congrArg some (by kernel_rfl))⟩
  t0 := Tryz.underlying0
  a0 := Tryz.isAgg0
  z0 := Tryz.sizeOf0
  v0 := Tryz.zeroValue0
  t3 := Tryz.underlying3
  a3 := Tryz.isAgg3
  z3 := Tryz.sizeOf3
  v3 := Tryz.zeroValue3
  t4 := Tryz.underlying4
  a4 := Tryz.isAgg4
  z4 := Tryz.sizeOf4
  v4 := Tryz.zeroValue4
  t5 := Tryz.underlying5
  a5 := Tryz.isAgg5
  z5 := Tryz.sizeOf5
  v5 := Tryz.zeroValue5
  t9 := Tryz.underlying9
  a9 := Tryz.isAgg9
  z9 := Tryz.sizeOf9
  v9 := Tryz.zeroValue9
  t26 := Tryz.underlying29
  a26 := Tryz.isAgg29
  z26 := Tryz.sizeOf29
  v26 := Tryz.zeroValue29
  t27 := Tryz.underlying29
  a27 := Tryz.isAgg29
  z27 := Tryz.sizeOf29
  v27 := Tryz.zeroValue29
  t29 := Tryz.underlying9
  a29 := Tryz.isAgg9
  z29 := Tryz.sizeOf9
  v29 := Tryz.zeroValue9
  t32 := Tryz.underlying33
  a32 := Tryz.isAgg33
  z32 := Tryz.sizeOf33
  v32 := Tryz.zeroValue33
  t35 := Tryz.underlying241
  a35 := Tryz.isAgg241
  z35 := Tryz.sizeOf241
  v35 := Tryz.zeroValue241
  t36 := Tryz.underlying242
  a36 := Tryz.isAgg242
  z36 := Tryz.sizeOf242
  v36 := Tryz.zeroValue242
  t41 := Tryz.underlying37
  a41 := Tryz.isAgg37
  z41 := Tryz.sizeOf37
  v41 := Tryz.zeroValue37
  t44 := Tryz.underlying249
  a44 := Tryz.isAgg249
  z44 := Tryz.sizeOf249
  v44 := Tryz.zeroValue249
  t46 := Tryz.underlying174
  a46 := Tryz.isAgg174
  z46 := Tryz.sizeOf174
  v46 := Tryz.zeroValue174
  t53 := Tryz.underlying293
  a53 := Tryz.isAgg293
  z53 := Tryz.sizeOf293
  v53 := Tryz.zeroValue293
  t57 := Tryz.underlying297
  a57 := Tryz.isAgg297
  z57 := Tryz.sizeOf297
  v57 := Tryz.zeroValue297
  t63 := Tryz.underlying325
  a63 := Tryz.isAgg325
  z63 := Tryz.sizeOf325
  v63 := Tryz.zeroValue325
  t64 := Tryz.underlying326
  a64 := Tryz.isAgg326
  z64 := Tryz.sizeOf326
  v64 := Tryz.zeroValue326 }
def Tryz.keys246_ren : Go.Shelf.Ren := ⟨fun | 7 => 246 | 10 => 265 | n => n, fun | 23 => 28 | 26 => 9 | 3 => 3 | 28 => 160 | 0 => 0 | 27 => 159 | 33 => 134 | 4 => 4 | n => n, fun | n => n⟩
open Go.RowKit Go.Maps Go.Sort Go.Shelf
theorem Tryz.sorts78 (m : Nat) : AnyZ.SortsIn Tryz.prog Tryz.sorted78_ren Fence.wide m :=
  ⟨fun blk off cap ss W hH hblk hsz => callsIn_wide.2 (AnyM.slices_Sort_string Tryz.sort82 blk off cap ss W hH hblk hsz),
   fun p cap W => callsIn_wide.2 (AnyM.slices_Sort_string_none Tryz.sort82 p cap W)⟩
theorem Tryz.maps_Keys_79 (mb : Option Nat) (W : World) : CallsIn Fence.wide 5 Tryz.prog 79 #[.map mb] W fun e w' => e = .returned (.func (.func 112) #[] #[.pointer (some ⟨W.heap.size, 0, none⟩)]) ∧ w' = W.alloc (.cells #[.map mb] 130) :=
  AnyZ.keys_in Tryz.keys79 Fence.wide 5 trivial rfl mb W
set_option maxHeartbeats 1000000 in
theorem Tryz.slices_Sorted_keys_78_79 {H : Type} (b nn : Nat) (D0 : DataW H) (R : Value → Option (DataW H × List MemPlace)) (w : World) (hown : w.ownsMap Tryz.prog 9 R b nn D0) (hmax : Maps.size D0 ≤ maxLen) (hbytes : Maps.size D0 * 16 ≤ 140737488355328) :
    CallsIn Fence.wide 5 Tryz.prog 78 #[.func (.func 112) #[] #[.pointer (some ⟨w.heap.size, 0, none⟩)]] (w.alloc (.cells #[.map (some b)] 130)) fun e w' => ∃ (v : Value) (ss : List (List UInt8)), e = .returned v ∧ ss.Perm (strKeys D0) ∧
      w'.ownsRow (w.alloc (.cells #[.map (some b)] 130)).heap.size 9 1 v ss.length ((ss.mergeSort (fun x y => decide (x ≤ y))).map encStr) ∧ (v = .slice none 0 0 ↔ ss = []) ∧ Below (w.alloc (.cells #[.map (some b)] 130)).heap.size (w.alloc (.cells #[.map (some b)] 130)) w' := by
  have hbl := hown.lt
  have hseq : SeqGives Fence.wide 2 Tryz.prog 112 #[.pointer (some ⟨w.heap.size, 0, none⟩)] encStr (fun ss => ss.Perm (strKeys D0)) (Maps.size D0) (w.alloc (.cells #[.map (some b)] 130)) :=
    AnyZ.keys_gives (ρ := Tryz.keys79_ren) { Tryz.keys79 with } Fence.wide _ trivial rfl (by omega) w.heap.size b nn D0 _ (by simp) (by simp) (by
      obtain ⟨es, clock, hb, Ft, hs, hD⟩ := hown
      exact ⟨es, clock, (Below.heap_alloc _ _ b hbl).trans hb, Ft, hs, hD⟩)
  exact AnyZ.sorted_in Tryz.sorted78 Fence.wide 5 trivial trivial trivial trivial rfl (by omega) (Tryz.sorts78 _) (enters_of Tryz.func82 (by kernel_rfl) rfl) 112 #[.pointer (some ⟨w.heap.size, 0, none⟩)] trivial (enters_of Tryz.func112 (by kernel_rfl) rfl) _ _ hmax hbytes _ hseq
end Go.Proofs
end

/- A directory's names in order: what the kit's contracts ask of a map. -/
section
namespace Go.Proofs.YtnjabanjgckeoaaGreatDoor
open Go.RowKit Go.Maps
open Go.ChangeMaps (setBlock)
open Go.WideElems (Fit rd rg)
set_option linter.unusedVariables false
set_option linter.unusedSimpArgs false
set_option maxRecDepth 100000

abbrev noR : Value → Option (DataW Unit × List MemPlace) := fun _ => some (.nil, [])
def sOf (v : Value) : List UInt8 := match v with
  | .string s => s.data.toList
  | _ => []
end Go.Proofs.YtnjabanjgckeoaaGreatDoor
end

/- List, of a directory. -/
section
namespace Go.Proofs.YtnjabanjgckeoaaGreatDoor
open Go.RowKit Go.Maps Go.Shelf
open Go.ChangeMaps (setBlock)
set_option linter.unusedVariables false
set_option linter.unusedSimpArgs false
set_option maxRecDepth 100000

end Go.Proofs.YtnjabanjgckeoaaGreatDoor
end

/- Do of operations that the caller has written out; what is asked of a tree behind it. -/
section
namespace Go.Proofs.YtnjabanjgckeoaaGreatDoor
open Go.RowKit
open Go.ChangeMaps (setBlock)
set_option linter.unusedVariables false
set_option linter.unusedSimpArgs false
set_option maxRecDepth 100000

def Live (w0 : World) (L : List Rw) (t : Nat) (E : Et) (w : World) : Prop := ∃ S L' T, Own ⟨w0, S⟩ w L' ∧ (∀ x ∈ L, x ∈ L') ∧ Tree S (Pc L') t T ∧ Rep T E
end Go.Proofs.YtnjabanjgckeoaaGreatDoor
end

/- What is asked of a tree, against the plain state. -/
section
namespace Go.Proofs.YtnjabanjgckeoaaGreatDoor
open Go.RowKit
open Go.ChangeMaps (setBlock)
set_option linter.unusedVariables false
set_option linter.unusedSimpArgs false
set_option maxRecDepth 100000

def standE (E : Et) (l : List UInt8) : Option ENd := (if okP l then walkE E 1 (namesL l) else none).bind fun i => look E.nodes i
def looseE (l : List (Int × ENd)) : List Int := (l.filter fun p => !p.2.dir && (p.2.places == 0)).map (·.1)
theorem looseL_er (l : List (Int × Nd)) : looseL l = looseE (erL l) := by
  unfold looseL looseE erL
  induction l with
  | nil => rfl
  | cons p r ih =>
    simp only [List.map_cons, List.filter_cons]
    have e : p.2.loose = (!p.2.er.dir && (p.2.er.places == 0)) := rfl
    rw [e]
    split
    · simp only [List.map_cons]; rw [ih]
    · exact ih
end Go.Proofs.YtnjabanjgckeoaaGreatDoor
end

/- Loose files that are all held: none of them is taken away. -/
section
namespace Go.Proofs.YtnjabanjgckeoaaGreatDoor
open Go.RowKit
open Go.ChangeMaps (setBlock)
set_option linter.unusedVariables false
set_option linter.unusedSimpArgs false
set_option maxRecDepth 100000

section
variable {w0 w w' : World} {S S' : Blocks} {R L L' M : List Rw} {v c n : Nat} {X X' : VX} {T T' Tc : Tr} {K : Blocks} {sv : Value} {zs : List Int}
theorem ask_any (h : VolIn w0 S R L v X T w) (bx : Nat) (hb : w.cell? ⟨bx, 0, none⟩ = some (.pointer (some ⟨v, 0, none⟩))) (i : Int) :
    Calls Tryz.prog 76 #[.int .i64 i, .pointer (some ⟨bx, 0, none⟩)] w fun e w' => e = .returned (.bool (decide (0 < heldN X.held i))) ∧ w = w' := by
  have hh := held_any h i
  clear h
  generalize heldN X.held i = m at *
  go_enter Tryz.func76, Tryz.ntmps76
  go_wp2_with fail
  refine hh.mono ?_
  rintro e w' ⟨rfl, rfl⟩
  go_wp2_with fail
  go_ret
  exact ⟨rfl, rfl⟩
/-- The first file of a row that is held. -/
theorem first_any (h : VolIn w0 S R L v X T w) (bx : Nat) (hb : w.cell? ⟨bx, 0, none⟩ = some (.pointer (some ⟨v, 0, none⟩))) (zs : List Int) (sv : Value) (hs : ∃ a c, sv = .slice a zs.length c ∧ (∀ i (hi : i < zs.length), ∃ g, a = some ⟨g, 0, none⟩ ∧ w.cell? ⟨g, i, none⟩ = some (.int .i64 zs[i]))) (hall : ∀ i ∈ zs, 0 < heldN X.held i) :
    Calls Tryz.prog 110 #[sv, .func (.func 76) #[] #[.pointer (some ⟨bx, 0, none⟩)]] w fun e w' => e = .returned (.int .i64 (if zs.length = 0 then -1 else 0)) ∧ w = w' := by
  obtain ⟨a, c, rfl, hc⟩ := hs
  cases zs with
  | nil =>
    clear h hc
    go_enter Tryz.func110, Tryz.ntmps110
    go_wp2_with fail
    go_loop [8] (fun i => i = .int .i64 0) (fun _ => 0)
    case atStart => rfl
    case round =>
      obtain rfl := hrel
      go_wp2_with fail
      go_ret
      exact ⟨rfl, rfl⟩
  | cons z r =>
    obtain ⟨g, rfl, hc0⟩ := hc 0 (by simp)
    have hz : 0 < heldN X.held z := hall z (List.mem_cons_self ..)
    have hask := ask_any h bx hb z
    rw [show decide (0 < heldN X.held z) = true from decide_eq_true hz] at hask
    have hc1 : w.cell? ⟨g, 0, none⟩ = some (.int .i64 z) := hc0
    obtain ⟨m, hm⟩ : ∃ m, (z :: r).length = m := ⟨_, rfl⟩
    have hmp : (0 : Int) < (m : Int) := by rw [← hm]; simp
    have hne : ¬ (z :: r).length = 0 := by simp
    rw [if_neg hne, hm]
    clear h hc hc0 hall hz hm hne hb
    go_enter Tryz.func110, Tryz.ntmps110
    go_wp2_with fail
    go_loop [8] (fun i => i = .int .i64 0) (fun _ => 0)
    case atStart => rfl
    case round =>
      obtain rfl := hrel
      go_wp2_with fail
      refine hask.mono ?_
      rintro e w' ⟨rfl, rfl⟩
      go_wp2_with fail
      go_ret
      exact ⟨rfl, rfl⟩
set_option maxHeartbeats 4000000 in
/-- Out of a row of files that are all held none stays. -/
theorem del_all (hO : Own ⟨w0, S⟩ w (rowI sv zs :: (R ++ L))) (h : VolIn w0 S R L v X T w) (bx : Nat) {bt : TypeId} (hbx : (bx, .cells #[.pointer (some ⟨v, 0, none⟩)] bt) ∈ S) (hall : ∀ i ∈ zs, 0 < heldN X.held i) :
    Calls Tryz.prog 74 #[sv, .func (.func 76) #[] #[.pointer (some ⟨bx, 0, none⟩)]] w fun e w' => ∃ a c, e = .returned (.slice a 0 c) ∧ VolIn w0 S R L v X T w' := by
  have hb : w.cell? ⟨bx, 0, none⟩ = some (.pointer (some ⟨v, 0, none⟩)) := by rw [h.own.cellB hbx]; rfl
  by_cases hz : zs.length = 0
  · have hzs : zs = [] := List.eq_nil_of_length_eq_zero hz
    subst hzs
    obtain ⟨a, c, rfl, _, _⟩ := Own.sized (h := (show Own ⟨w0, S⟩ w (⟨3, 1, sv, 0, []⟩ :: (R ++ L)) from hO))
    have hf := first_any h bx hb [] (.slice a 0 c) ⟨a, c, rfl, fun i hi => absurd hi (by simp)⟩ (fun i hi => by cases hi)
    rw [show (if ([] : List Int).length = 0 then (-1 : Int) else 0) = -1 from rfl] at hf
    have H := Lib.hid h
    clear h hO hall hb hbx hz
    go_enter Tryz.func74, Tryz.ntmps74
    go_wp2_with fail
    refine hf.mono ?_
    rintro e w' ⟨rfl, rfl⟩
    go_wp2_with fail
    go_ret
    exact ⟨_, _, rfl, H.out⟩
  · have hO' : Own ⟨w0, S⟩ w (⟨3, 1, sv, zs.length, zs.map (Value.int .i64)⟩ :: (R ++ L)) := hO
    obtain ⟨g, cp, rfl, _, _, hcp, hcm⟩ := Own.form (h := hO') (by omega)
    have hcell : ∀ i (hi : i < zs.length), w.cell? ⟨g, i, none⟩ = some (.int .i64 zs[i]) := fun i hi => by
      rw [Own.cell (h := hO') i (by omega), List.getElem?_map, List.getElem?_eq_getElem hi]; rfl
    have hf := first_any h bx hb zs (.slice (some ⟨g, 0, none⟩) zs.length cp) ⟨_, cp, rfl, fun i hi => ⟨g, rfl, hcell i hi⟩⟩ hall
    rw [if_neg hz] at hf
    have hask : ∀ i (hi : i < zs.length), Calls Tryz.prog 76 #[.int .i64 zs[i], .pointer (some ⟨bx, 0, none⟩)] w fun e w' => e = .returned (.bool true) ∧ w = w' := fun i hi => by
      have := ask_any h bx hb zs[i]
      rwa [show decide (0 < heldN X.held zs[i]) = true from decide_eq_true (hall _ (List.getElem_mem _))] at this
    have hcl : ∀ ty, (Builtin.clear_ #[22] ty #[.slice (some ⟨g, 0, none⟩) zs.length cp]).run Tryz.prog w = .ok (.tuple #[]) (w.setCells g 0 (List.replicate zs.length (.int .i64 0))) := fun ty =>
      Lib.run_clear_slice w 22 3 ty (.int .i64 0) Tryz.underlying22 (fun w => zeroIntW w) rfl rfl g 0 zs.length cp (by omega) (fun i hi => by rw [Nat.zero_add, hcell i hi]; rfl) (fun i hi => Own.free (h := hO') _)
    have HP := Lib.hid (show VolIn w0 S R L v X T (w.setCells g 0 (List.replicate zs.length (.int .i64 0))) from { h with own := (Own.setCells (h := hO') (List.replicate zs.length (.int .i64 0)) 0).tail })
    have Hask := Lib.hid hask
    have Hcell := Lib.hid hcell
    obtain ⟨n, hn⟩ : ∃ n, zs.length = n := ⟨_, rfl⟩
    have hn0 : 0 < n := by omega
    have hcp0 : ¬ cp = 0 := by omega
    have hcp1 : n ≤ cp := by omega
    have hcm2 : cp ≤ 9223372036854775807 := by unfold maxLen at hcm; omega
    rw [hn] at hf hcl HP ⊢
    have Hn := Lib.hid hn
    clear h hO hO' hall hb hbx hz hcell hask hn hcm hcp
    go_enter Tryz.func74, Tryz.ntmps74
    go_wp2_with fail
    refine hf.mono ?_
    rintro e w' ⟨rfl, rfl⟩
    go_wp2_with fail
    go_loop [5, 6] (fun i j => i = .int .i64 0 ∧ ∃ k : Nat, 1 ≤ k ∧ k ≤ n ∧ j = .int .i64 k) (fun _ j => n - (intOf j).toNat)
    case atStart => exact ⟨rfl, 1, by omega, by omega, rfl⟩
    case round =>
      obtain ⟨rfl, k, hk1, hk, rfl⟩ := hrel
      by_cases hkn : k < n
      · have hc := Hcell.out k (by rw [Hn.out]; exact hkn)
        have ha := Hask.out k (by rw [Hn.out]; exact hkn)
        generalize zs[k]'(by rw [Hn.out]; exact hkn) = z at *
        have hb63 : (k : Int) < (n : Int) := by exact_mod_cast hkn
        go_wp2_with fail
        refine ha.mono ?_
        rintro e w' ⟨rfl, rfl⟩
        go_wp2_with fail
        go_round
        case rel => exact ⟨rfl, k + 1, by omega, by omega, by go_num⟩
        case measure => simp [intOf]; omega
      · have hke : k = n := by omega
        subst hke
        have hb63 : ¬ ((k : Int) < (k : Int)) := Int.lt_irrefl _
        go_wp2_with fail
        go_ret
        exact ⟨⟨_, _, rfl⟩, HP.out⟩
end
end Go.Proofs.YtnjabanjgckeoaaGreatDoor
end

/- Do of a volume, where all goes well, and each loose file is held. -/
section
namespace Go.Proofs.YtnjabanjgckeoaaGreatDoor
open Go.RowKit
open Go.ChangeMaps (setBlock)
set_option linter.unusedVariables false
set_option linter.unusedSimpArgs false
set_option maxRecDepth 100000

section
variable {w0 w w' : World} {S S' S1 : Blocks} {R L L' L1 M : List Rw} {v c n : Nat} {X X' X1 X2 : VX} {T T' Tc T1 : Tr} {K : Blocks} {sv : Value} {zs : List Int}
theorem VolTo.comp {m : Nat} (hL : ∀ x ∈ L, x ∈ L1) (hS : ∀ b x, (b, x) ∈ S → b ∉ v :: X.hm :: X.t :: T.foot → (b, x) ∈ S1) (hF : ∀ b ∈ X.t :: T1.foot, b ∈ X.t :: T.foot ∨ n ≤ b) (ht : X1.t = X.t) (hh : X1.hm = X.hm) (hlt : ∀ b x, (b, x) ∈ S → b < n) (hnm : n ≤ m) (k : VolTo w0 S1 L1 v X1 T1 m X2 w') : VolTo w0 S L v X T n X2 w' := by
  obtain ⟨S2, R2, L2, T2, g1, g2, g3, g4, g5, g6⟩ := k
  refine ⟨S2, R2, L2, T2, g1, fun x hx => g2 x (hL x hx), fun b x hx hb => g3 b x (hS b x hx hb) ?_, fun b hb => ?_, g5.trans ht, g6.trans hh⟩
  · intro hm
    rw [ht, hh] at hm
    rcases List.mem_cons.1 hm with rfl | hm
    · exact hb (List.mem_cons_self ..)
    · rcases List.mem_cons.1 hm with rfl | hm
      · exact hb (List.mem_cons_of_mem _ (List.mem_cons_self ..))
      · rcases hF b hm with h7 | h7
        · exact hb (List.mem_cons_of_mem _ (List.mem_cons_of_mem _ h7))
        · have := hlt b x hx; omega
  · rw [ht] at g4
    rcases g4 b hb with h7 | h7
    · exact hF b h7
    · exact .inr (by omega)
/-- The tree that was apart takes the tree's place. -/
theorem VolIn.takes (h : VolIn w0 S R L v X T w) (hc : Tree S (Pc L) c Tc) {E' : Et} {B' : Nat} (hr : Rep Tc E') (hi : Inv E' B') (hd : ∀ b ∈ v :: X.hm :: X.t :: T.foot, b ∉ c :: Tc.foot) :
    VolIn w0 (upd S X.t (.cells (treeCells Tc) 124)) R L v { X with E := E', B := B' } Tc (((w.setCell ⟨X.t, 0, none⟩ (.int .i64 Tc.quota)).setCell ⟨X.t, 1, none⟩ (.int .i64 Tc.next)).setCell ⟨X.t, 2, none⟩ (.map (some Tc.bm))) := by
  have htv : v ≠ X.t := fun e => h.off.1 (e ▸ List.mem_cons_self ..)
  have hth : X.hm ≠ X.t := fun e => h.off.2.1 (e ▸ List.mem_cons_self ..)
  have mt : X.t ∈ v :: X.hm :: X.t :: T.foot := List.mem_cons_of_mem _ (List.mem_cons_of_mem _ (List.mem_cons_self ..))
  have htc : X.t ∉ Tc.foot := fun hm => hd _ mt (List.mem_cons_of_mem _ hm)
  have hin : ∀ b, b ∈ v :: X.hm :: X.t :: T.foot → b ≠ X.t → b ∉ X.t :: Tc.foot := fun b hb hne hm => by
    rcases List.mem_cons.1 hm with e | hm
    · exact hne e
    · exact hd b hb (List.mem_cons_of_mem _ hm)
  obtain ⟨o, h1, h2⟩ := h.map
  exact ⟨store3 h.own h.tree.at_.cells, h.log, hc.moved h.tree.at_.cells htc, hr, hi, upd_other h.cells htv _, ⟨o, upd_other h1 hth _, h2⟩, ⟨hin _ (List.mem_cons_self ..) htv, hin _ (List.mem_cons_of_mem _ (List.mem_cons_self ..)) hth, h.off.2.2⟩, h.live, h.left⟩
theorem VolIn.loose (h : VolIn w0 S R L v X T w) (hB : X.B ≤ 1000000) : Calls Tryz.prog 75 #[.pointer (some ⟨X.t, 0, none⟩)] w fun e w' => ∃ (sv : Value) (zs : List Int), e = .returned sv ∧ zs.Perm (looseE X.E.nodes) ∧ Own ⟨w0, S⟩ w' (rowI sv zs :: (R ++ L)) ∧ VolIn w0 S R L v X T w' := by
  have hlen := h.inv.len
  refine (loose_t h.treeW (by rw [h.rep.count]; omega)).mono fun e w' hd => ?_
  obtain ⟨sv, zs, e1, e2, e3⟩ := hd
  refine ⟨sv, zs.mergeSort fun x y => decide (x ≤ y), e1, (List.mergeSort_perm zs _).trans (e2.trans ?_), h.own.join e3, h.later e3.below⟩
  rw [looseL_er]
  unfold looseE
  exact (h.rep.nodes.filter _).map _
theorem VolIn.reapNone (h : VolIn w0 S R L v X T w) (a : Option Addr) (cp : Nat) : Calls Tryz.prog 73 #[.pointer (some ⟨X.t, 0, none⟩), .slice a 0 cp] w fun e w' => e = .returned (.tuple #[]) ∧ VolTo w0 S L v X T w.heap.size X w' := by
  have := h.turn (f := 73) (args := #[.pointer (some ⟨X.t, 0, none⟩), .slice a 0 cp]) (r := .tuple #[]) (E' := X.E) (B' := X.B) h.inv fun S1 _ k1 k2 => reap_any k1 k2 h.rep h.inv a [] cp (by simp) (fun w' S' _ _ i hi => absurd hi (by simp))
  exact this
theorem to_cells {b m : Nat} {bt : TypeId} {bv : Value} (k : VolTo w0 S L v X T m X w') (hb : (b, .cells #[bv] bt) ∈ S) (hn : b ∉ v :: X.hm :: X.t :: T.foot) : w'.cell? ⟨b, 0, none⟩ = some bv ∧ w'.cell? ⟨v, 0, none⟩ = some (.pointer (some ⟨X.t, 0, none⟩)) := by
  obtain ⟨S', R', L', T', h1, _, h3, _⟩ := k
  exact ⟨by rw [h1.own.cellB (h3 _ _ hb hn)]; rfl, h1.atV.1.1⟩
/-- What Do makes of a volume. -/
abbrev doneX (X : VX) (ops : List OpD) (xs : List OpE) (D' : Dk) : VX :=
  { X with E := (DoE X.E xs).2, B := X.B + xs.length, D := D', used := X.used + roomM (recO (pks ops xs)).length, recs := X.recs ++ [recO (pks ops xs)], st := X.st + 100 }
set_option maxHeartbeats 16000000 in
theorem vdo_yes (h : VolIn w0 S R L v X T w) (hm : Mx w0) {a : Option Addr} {ops : List OpD} {xs : List OpE} (ho : Ops w0 S L a ops xs) (cap : Nat) (hk : ∀ o ∈ ops, 0 ≤ o.kind ∧ o.kind < 4294967296) (hs : ∀ o ∈ ops, o.p.size ≤ 100000 ∧ o.q.size ≤ 100000) (hz : ∀ x ∈ xs, x.zs.length ≤ 100000) (hq : ∀ o ∈ ops, o.kind = 4 ∨ o.kind = 5 ∨ o.q = ⟨#[]⟩)
    (hn0 : 0 < ops.length) (hB : X.B + ops.length ≤ 100000) (hE : (DoE X.E xs).1 = 0) (hl : (recO (pks ops xs)).length ≤ 4096) (hf : X.used + roomM (recO (pks ops xs)).length ≤ X.h) (hst : X.st ≤ 1000000000) (hheld : ∀ i ∈ looseE (DoE X.E xs).2.nodes, 0 < heldN X.held i) :
    Calls Tryz.prog 37 #[.pointer (some ⟨v, 0, none⟩), .slice a ops.length cap] w fun e w' => e = .returned (.int .i64 0) ∧ ∃ D', VolTo w0 S L v X T w.heap.size (doneX X ops xs D') w' := by
  have hxl := ho.len
  have hlt : ∀ b x, (b, x) ∈ S → b < w.heap.size := fun b x hb => (h.own.atLt hb).2
  have hvlt : ∀ b ∈ v :: X.hm :: X.t :: T.foot, b < w.heap.size := fun b hb => (h.lt hb).2
  have hI1 : Inv (DoE X.E xs).2 (X.B + xs.length) := DoE_inv h.inv xs
  obtain ⟨w1, hw1⟩ : ∃ w1, w1 = w.alloc (.cells #[.pointer (some ⟨v, 0, none⟩)] 24) := ⟨_, rfl⟩
  have h1 : VolIn w0 ((w.heap.size, .cells #[.pointer (some ⟨v, 0, none⟩)] 24) :: S) R L v X T w1 := by
    rw [hw1]; exact h.base (h.own.newB _) (fun b x hx _ => List.mem_cons_of_mem _ hx)
  obtain ⟨bx, hbx⟩ : ∃ bx, w.heap.size = bx := ⟨_, rfl⟩
  rw [hbx] at h1 hlt hvlt ⊢
  have hsz1 : w1.heap.size = bx + 1 := by rw [hw1, ← hbx]; simp
  have hb1 : w1.cell? ⟨bx, 0, none⟩ = some (.pointer (some ⟨v, 0, none⟩)) := by rw [h1.own.cellB (List.mem_cons_self ..)]; rfl
  have hdead := dead_any h1
  rw [hw1] at hdead hb1
  have Hsz1 := Lib.hid hsz1
  have Hlt := Lib.hid hlt
  have Hvlt := Lib.hid hvlt
  have Ho := Lib.hid ho
  have HI := Lib.hid hI1
  have Hheld := Lib.hid hheld
  have Hl := Lib.hid hl
  have Hf := Lib.hid hf
  have Hk := Lib.hid hk
  have Hs := Lib.hid hs
  have Hz := Lib.hid hz
  have Hq := Lib.hid hq
  have Hx := Lib.hid hxl
  have HE := Lib.hid hE
  have Hw1 := Lib.hid hw1
  clear h h1 hlt hvlt ho hI1 hheld hl hf hk hs hz hq hxl hE hsz1 hw1
  subst hbx
  go_enter Tryz.func37, Tryz.ntmps37
  go_wp2_with fail
  refine hdead.mono ?_
  rintro e w2 ⟨rfl, h2, hsz2⟩
  rw [← Hw1.out, Hsz1.out] at hsz2
  have hb2 : w2.cell? ⟨w.heap.size, 0, none⟩ = some (.pointer (some ⟨v, 0, none⟩)) := by rw [h2.own.cellB (List.mem_cons_self ..)]; rfl
  obtain ⟨⟨c0, _, _, _, _⟩, _⟩ := h2.atV
  have hwk := work_any h2
  have H2 := Lib.hid h2
  clear hdead hb1 h2
  go_wp2_with fail
  refine hwk.mono ?_
  rintro e w3 ⟨c, S3, Tc, rfl, h3, hc3, hr3, hs3, hf3⟩
  have hcw : c < w3.heap.size := (h3.own.atLt hc3.at_.cells).2
  have hcl := hf3 c (List.mem_cons_self ..)
  have hS3 : ∀ b x, (b, x) ∈ S → (b, x) ∈ S3 := fun b x hx => hs3 b x (List.mem_cons_of_mem _ hx)
  have hbS3 := hs3 _ _ (List.mem_cons_self ..)
  have hdo := work_do (n := w2.heap.size) h3 hm hc3 hr3 hf3 (fun b hb => by have := Hvlt.out b hb; omega) (by omega) (Ho.out.mono hS3 (fun x hx => hx)) cap (by omega)
  rw [HE.out] at hdo
  have HS3 := Lib.hid hS3
  have HbS3 := Lib.hid hbS3
  have Hf3 := Lib.hid hf3
  clear hwk c0 hb2 h3 hc3 hr3 hs3 hf3 hS3 hbS3 H2
  go_wp2_with fail
  refine hdo.mono ?_
  rintro e w4 ⟨rfl, S4, L4, Tc4, h4, hL4, hc4, hr4, hs4, hf4⟩
  have hbS4 := hs4 _ _ HbS3.out (fun hm => by have := Hf3.out _ hm; omega)
  have hS4 : ∀ b x, (b, x) ∈ S → (b, x) ∈ S4 := fun b x hx => hs4 b x (HS3.out b x hx) (fun hm => by have := Hf3.out _ hm; have := Hlt.out b x hx; omega)
  have hb4 : w4.cell? ⟨w.heap.size, 0, none⟩ = some (.pointer (some ⟨v, 0, none⟩)) := by rw [h4.own.cellB hbS4]; rfl
  have hkp := keep_yes h4 (Ops.pack (Ho.out.mono hS4 hL4) Hk.out Hs.out Hz.out) (.pointer (some ⟨c, 0, none⟩)) cap (by rw [pks_len Hx.out]; exact hn0) (by rw [pks_len Hx.out]; omega) (fun o ho => by
    obtain ⟨i, hi, rfl⟩ := List.getElem_of_mem ho
    rw [pks_len Hx.out] at hi
    rw [pks_get Hx.out i hi]
    exact Hq.out _ (List.getElem_mem _)) Hl.out Hf.out hst
  rw [pks_len Hx.out] at hkp
  have HS4 := Lib.hid hS4
  have HbS4 := Lib.hid hbS4
  have Hf4 := Lib.hid hf4
  have HL4 := Lib.hid hL4
  have Hc4 := Lib.hid hc4
  have Hr4 := Lib.hid hr4
  clear hdo h4 hc4 hr4 hs4 hf4 hS4 hbS4 hL4
  go_wp2_with fail
  refine hkp.mono ?_
  rintro e w5 ⟨rfl, R5, L5, D5, h5, hL5⟩
  have hc5 : Tree S4 (Pc L5) c Tc4 := Hc4.out.mono (fun b x _ hx => hx) (fun _ _ hh => hh.mono hL5)
  have h6 := h5.drew.takes hc5 Hr4.out HI.out (fun b hb hm => by
    have := Hf4.out b hm
    have := Hvlt.out b hb
    omega)
  have hb5 : w5.drew.cell? ⟨w.heap.size, 0, none⟩ = some (.pointer (some ⟨v, 0, none⟩)) := by rw [h5.drew.own.cellB HbS4.out]; rfl
  obtain ⟨⟨c0, _, _, _, _⟩, _⟩ := h5.drew.atV
  obtain ⟨a0, a1, a2⟩ := (hc5.at_.inWorld h5.drew.ownL).at0
  have ht5 := h5.drew.own.at h5.tree.at_.cells
  have f0 := free_at ht5 0
  have f1 := free_at ht5 1
  have f2 := free_at ht5 2
  have b0 : w5.drew.cell? ⟨X.t, 0, none⟩ = some (.int .i64 T.quota) := cell_at ht5 0
  have b1 : w5.drew.cell? ⟨X.t, 1, none⟩ = some (.int .i64 T.next) := cell_at ht5 1
  have b2 : w5.drew.cell? ⟨X.t, 2, none⟩ = some (.map (some T.bm)) := cell_at ht5 2
  have H6 := Lib.hid h6
  have HL5 := Lib.hid (fun x (hx : x ∈ L) => hL5 x (HL4.out x hx))
  clear hkp h5 hc5 h6 hL5 ht5 hb4
  have hbu : (w.heap.size, Obj.cells #[.pointer (some ⟨v, 0, none⟩)] 24) ∈ upd S4 X.t (.cells (treeCells Tc4) 124) := upd_other HbS4.out (fun e => by
    have := Hvlt.out X.t (List.mem_cons_of_mem _ (List.mem_cons_of_mem _ (List.mem_cons_self ..)))
    omega) _
  have HbS6 := Lib.hid hbu
  have HS6 := Lib.hid (fun b x (hx : (b, x) ∈ S) (hb : b ∉ v :: X.hm :: X.t :: T.foot) => upd_other (HS4.out b x hx) (fun e => hb (e ▸ List.mem_cons_of_mem _ (List.mem_cons_of_mem _ (List.mem_cons_self ..)))) (.cells (treeCells Tc4) 124))
  have HF6 := Lib.hid (fun b (hb : b ∈ X.t :: Tc4.foot) => (show b ∈ X.t :: T.foot ∨ w.heap.size ≤ b from by
    rcases List.mem_cons.1 hb with rfl | hb
    · exact .inl (List.mem_cons_self ..)
    · have := Hf4.out b (List.mem_cons_of_mem _ hb)
      exact .inr (by omega)))
  have HbF0 : w.heap.size ∉ v :: X.hm :: X.t :: Tc4.foot := fun hm => by
    rcases List.mem_cons.1 hm with e | hm
    · have := Hvlt.out v (List.mem_cons_self ..); omega
    · rcases List.mem_cons.1 hm with e | hm
      · have := Hvlt.out X.hm (List.mem_cons_of_mem _ (List.mem_cons_self ..)); omega
      · rcases List.mem_cons.1 hm with e | hm
        · have := Hvlt.out X.t (List.mem_cons_of_mem _ (List.mem_cons_of_mem _ (List.mem_cons_self ..))); omega
        · have := Hf4.out _ (List.mem_cons_of_mem _ hm); omega
  obtain ⟨w6, hw6⟩ : ∃ w6, w6 = (((w5.drew.setCell ⟨X.t, 0, none⟩ (.int .i64 Tc4.quota)).setCell ⟨X.t, 1, none⟩ (.int .i64 Tc4.next)).setCell ⟨X.t, 2, none⟩ (.map (some Tc4.bm))) := ⟨_, rfl⟩
  rw [← hw6] at H6
  clear hbu HbS4 HS4 Hf4 Hr4 Hc4 HL4 HS3 HbS3 Hf3 Ho Hl Hf Hk Hs Hz Hq HE
  go_wp2_with fail
  go_still_tail 8, (by kernel_rfl)
  repeat still_step
  change wpList _ _ _ _ _ w5.drew
  generalize w5.drew = wd at *
  go_wp2_with fail
  rw [← hw6]
  have hb6 : w6.cell? ⟨w.heap.size, 0, none⟩ = some (.pointer (some ⟨v, 0, none⟩)) := by rw [H6.out.own.cellB HbS6.out]; rfl
  obtain ⟨⟨d0, _, _, _, _⟩, _⟩ := H6.out.atV
  have HbF := Lib.hid HbF0
  have HLo := Lib.hid (fun W (hb : Below w6.heap.size w6 W) => (H6.out.later hb).loose (by show X.B + xs.length ≤ 1000000; rw [Hx.out]; omega))
  clear hw6 a0 a1 a2 b0 b1 b2 f0 f1 f2 hb5 c0
  go_region_held3 (fun w' : World => w'.cell? ⟨w.heap.size, 0, none⟩ = some (.pointer (some ⟨v, 0, none⟩)) ∧ w'.cell? ⟨v, 0, none⟩ = some (.pointer (some ⟨X.t, 0, none⟩))) (first | exact ⟨hb6, d0⟩ | exact s7 | exact s8 | exact s9) (first
    | (go_at_call 75; refine (HLo.out _ (by first | exact Below.refl _ _ | exact (Below.refl _ _).drew)).mono ?_; rintro e w7 ⟨sv, zs, rfl, hp7, hO7, h7⟩; have s7 : w7.cell? ⟨w.heap.size, 0, none⟩ = some (.pointer (some ⟨v, 0, none⟩)) ∧ w7.cell? ⟨v, 0, none⟩ = some (.pointer (some ⟨X.t, 0, none⟩)) := ⟨by rw [h7.own.cellB HbS6.out]; rfl, h7.atV.1.1⟩; obtain ⟨q1, q2⟩ := id s7; have H7 := Lib.hid (And.intro hp7 (And.intro hO7 h7)); clear hp7 hO7 h7)
    | (go_at_call 74; refine (del_all H7.out.2.1 H7.out.2.2 w.heap.size HbS6.out (fun i hi => Hheld.out i (H7.out.1.subset hi))).mono ?_; rintro e w8 ⟨a8, c8, rfl, h8⟩; have s8 : w8.cell? ⟨w.heap.size, 0, none⟩ = some (.pointer (some ⟨v, 0, none⟩)) ∧ w8.cell? ⟨v, 0, none⟩ = some (.pointer (some ⟨X.t, 0, none⟩)) := ⟨by rw [h8.own.cellB HbS6.out]; rfl, h8.atV.1.1⟩; obtain ⟨r1, r2⟩ := id s8; have H8 := Lib.hid h8; clear h8)
    | (go_at_call 73; refine (H8.out.reapNone a8 c8).mono ?_; rintro e w9 ⟨rfl, h9⟩; have H9 := Lib.hid h9; have s9 := to_cells h9 HbS6.out HbF.out; clear h9))
  all_goals
    have HP := Lib.hid (show VolTo w0 S L v X T w.heap.size (doneX X ops xs D5) w9 from VolTo.comp HL5.out HS6.out HF6.out rfl rfl Hlt.out (Nat.le_of_lt (H8.out.own.atLt HbS6.out).2) H9.out)
    clear H9 H8 H7 H6 HLo HbF HL5 HbS6 HS6 HF6 Hheld HI
    go_wp2_with fail
    go_ret
    exact ⟨rfl, _, HP.out⟩
end
end Go.Proofs.YtnjabanjgckeoaaGreatDoor
end
