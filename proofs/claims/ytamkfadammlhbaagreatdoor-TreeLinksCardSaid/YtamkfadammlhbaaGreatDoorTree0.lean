/- A tree in memory: its nodes as a list by numbers; what stands at a path. -/
import Derived.Test.YtamkfadammlhbaaGreatDoorMHeap
import Derived.Test.YtamkfadammlhbaaGreatDoorPJoin
namespace Go.Proofs.YtamkfadammlhbaaGreatDoor
open Go.RowKit
open Go.ChangeMaps (setBlock)
set_option linter.unusedVariables false
set_option linter.unusedSimpArgs false

/-- A node: its block, the block of what stands in it (none: a file), what stands in it, a file's bytes (as a value, and as they are), at how many paths it stands. -/
structure Nd where
  b : Nat
  k : Option Nat
  kids : List (ByteArray × Int)
  dv : Value
  data : List Int
  places : Int
def Nd.foot (n : Nd) : List Nat := n.b :: n.k.toList
def nodeCells (n : Nd) : Array Value := #[.map n.k, n.dv, .int .i64 n.places]
def kidsV (kids : List (ByteArray × Int)) : List (ByteArray × Value) := kids.map fun p => (p.1, .int .i64 p.2)
abbrev KI (i : Int) : Value := .int .i64 i
abbrev KS (s : ByteArray) : Value := .string s
theorem kindsI : Kinds Tryz.prog 3 KI := kinds_int Tryz.underlying3
theorem kindsS : Kinds Tryz.prog 9 KS := kinds_string Tryz.underlying9
structure NodeIn (h : Nat → Obj → Prop) (D : Value → List Int → Prop) (n : Nd) : Prop where
  cells : h n.b (.cells (nodeCells n) 86)
  kid : ∀ k, n.k = some k → ∃ o, h k o ∧ MapO KS o (kidsV n.kids)
  file : n.k = none → n.kids = []
  dat : D n.dv n.data
  form : ∃ a c, n.dv = .slice a n.data.length c
/-- A tree: its map's block, for how many bytes there is room, the number that comes next, its nodes. -/
structure Tr where
  bm : Nat
  quota : Int
  next : Int
  nodes : List (Int × Nd)
def nodesV (T : Tr) : List (Int × Value) := T.nodes.map fun p => (p.1, .pointer (some ⟨p.2.b, 0, none⟩))
def treeCells (T : Tr) : Array Value := #[.int .i64 T.quota, .int .i64 T.next, .map (some T.bm)]
structure TreeIn (h : Nat → Obj → Prop) (D : Value → List Int → Prop) (t : Nat) (T : Tr) : Prop where
  cells : h t (.cells (treeCells T) 75)
  map : ∃ o, h T.bm o ∧ MapO KI o (nodesV T)
  node : ∀ p ∈ T.nodes, NodeIn h D p.2
def Tr.foot (T : Tr) : List Nat := T.bm :: T.nodes.flatMap fun p => p.2.foot
theorem NodeIn.mono {h h' : Nat → Obj → Prop} {D D' : Value → List Int → Prop} {n : Nd} (H : NodeIn h D n) (hh : ∀ b o, b ∈ n.foot → h b o → h' b o) (hD : ∀ v zs, D v zs → D' v zs) : NodeIn h' D' n :=
  ⟨hh _ _ (List.mem_cons_self ..) H.cells, fun k hk => by
    obtain ⟨o, h1, h2⟩ := H.kid k hk
    exact ⟨o, hh _ _ (List.mem_cons_of_mem _ (by rw [hk]; simp)) h1, h2⟩, H.file, hD _ _ H.dat, H.form⟩
theorem TreeIn.mono {h h' : Nat → Obj → Prop} {D D' : Value → List Int → Prop} {t : Nat} {T : Tr} (H : TreeIn h D t T) (hh : ∀ b o, b ∈ t :: T.foot → h b o → h' b o) (hD : ∀ v zs, D v zs → D' v zs) : TreeIn h' D' t T := by
  obtain ⟨o, h1, h2⟩ := H.map
  refine ⟨hh _ _ (List.mem_cons_self ..) H.cells, ⟨o, hh _ _ (List.mem_cons_of_mem _ (List.mem_cons_self ..)) h1, h2⟩, fun p hp => (H.node p hp).mono (fun b o hb => hh b o ?_) hD⟩
  exact List.mem_cons_of_mem _ (List.mem_cons_of_mem _ (List.mem_flatMap.2 ⟨p, hp, hb⟩))
/-- A tree that lies in a world. -/
abbrev inW (w : World) : Nat → Obj → Prop := fun b o => w.heap[b]? = some o
abbrev inS (S : Blocks) : Nat → Obj → Prop := fun b o => (b, o) ∈ S
abbrev anyD : Value → List Int → Prop := fun _ _ => True
theorem TreeIn.later {w w' : World} {D : Value → List Int → Prop} {t : Nat} {T : Tr} (H : TreeIn (inW w) D t T) (hb : Below w.heap.size w w') : TreeIn (inW w') D t T :=
  H.mono (fun b o _ ho => (hb.block b (lt_of_heap ho)).trans ho) (fun _ _ h => h)
theorem TreeIn.inWorld {w0 w : World} {S : Blocks} {L : List Rw} {D : Value → List Int → Prop} {t : Nat} {T : Tr} (H : TreeIn (inS S) D t T) (hO : Own ⟨w0, S⟩ w L) : TreeIn (inW w) D t T :=
  H.mono (fun b o _ ho => hO.at ho) (fun _ _ h => h)
theorem TreeIn.bare {h : Nat → Obj → Prop} {D : Value → List Int → Prop} {t : Nat} {T : Tr} (H : TreeIn h D t T) : TreeIn h anyD t T := H.mono (fun _ _ _ h => h) (fun _ _ _ => trivial)

/-! ### Look-ups -/
theorem look_map {α β γ : Type} [DecidableEq α] (f : β → γ) (m : List (α × β)) (a : α) : look (m.map fun p => (p.1, f p.2)) a = (look m a).map f := by
  induction m with
  | nil => rfl
  | cons p r ih =>
    simp only [List.map_cons, look]
    split
    · rfl
    · exact ih
theorem look_mem {α β : Type} [DecidableEq α] {m : List (α × β)} {a : α} {v : β} (h : look m a = some v) : (a, v) ∈ m := by
  induction m with
  | nil => cases h
  | cons p r ih =>
    unfold look at h
    split at h
    · rename_i e; injection h with h; subst e h; exact List.mem_cons_self ..
    · exact List.mem_cons_of_mem _ (ih h)
theorem zeroNode (w : World) : (zeroValue 71).run Tryz.prog w = .ok (.pointer none) w := by kernel_rfl
theorem zeroInt (w : World) : (zeroValue 3).run Tryz.prog w = .ok (.int .i64 0) w := by kernel_rfl
def ptrOf (n : Option Nd) : Value := match n with
  | some n => .pointer (some ⟨n.b, 0, none⟩)
  | none => .pointer none
theorem TreeIn.look {w : World} {D : Value → List Int → Prop} {t : Nat} {T : Tr} (H : TreeIn (inW w) D t T) (i : Int) :
    (Instr.lookup 73 (.map (some T.bm)) (.int .i64 i) false).run Tryz.prog w = .ok (ptrOf (Go.Proofs.YtamkfadammlhbaaGreatDoor.look T.nodes i)) w := by
  obtain ⟨o, h1, h2⟩ := H.map
  have := MapO.lookup kindsI Tryz.underlying73 (zeroNode w) h2 h1 i false
  have e := look_map (fun n : Nd => Value.pointer (some ⟨n.b, 0, none⟩)) T.nodes i
  rw [show nodesV T = T.nodes.map fun p => (p.1, (fun n : Nd => Value.pointer (some ⟨n.b, 0, none⟩)) p.2) from rfl, e] at this
  rw [this]
  cases Go.Proofs.YtamkfadammlhbaaGreatDoor.look T.nodes i <;> rfl
theorem NodeIn.look {w : World} {D : Value → List Int → Prop} {n : Nd} (H : NodeIn (inW w) D n) {k : Nat} (hk : n.k = some k) (s : ByteArray) :
    (Instr.lookup 84 (.map (some k)) (.string s) true).run Tryz.prog w = .ok (.tuple #[.int .i64 ((Go.Proofs.YtamkfadammlhbaaGreatDoor.look n.kids s).getD 0), .bool (Go.Proofs.YtamkfadammlhbaaGreatDoor.look n.kids s).isSome]) w := by
  obtain ⟨o, h1, h2⟩ := H.kid k hk
  have := MapO.lookup kindsS Tryz.underlying84 (zeroInt w) h2 h1 s true
  have e := look_map (fun i : Int => Value.int .i64 i) n.kids s
  rw [show kidsV n.kids = n.kids.map fun p => (p.1, (fun i : Int => Value.int .i64 i) p.2) from rfl, e] at this
  rw [this]
  cases Go.Proofs.YtamkfadammlhbaaGreatDoor.look n.kids s <;> rfl
theorem lookup_nil (w : World) (s : ByteArray) : (Instr.lookup 84 (.map none) (.string s) true).run Tryz.prog w = .ok (.tuple #[.int .i64 0, .bool false]) w := by
  have h1 : (Instr.checkKey true 10000 9 (.string s)).run Tryz.prog w = .ok () w := kindsS.check true s w
  have h2 : (Instr.findKey 9 (.string s) []).run Tryz.prog w = .ok none w := MapKept.run_findKey (d := .string) Tryz.underlying9 rfl
  simp [Instr.lookup, run_underlying Tryz.underlying84, Sem.run_bind, Result.andThen, h1, h2, zeroInt]

/-- What stands at names, from a node on. -/
def walkT (T : Tr) (i : Int) : List (List UInt8) → Option Int
  | [] => some i
  | n :: r => match look T.nodes i with
    | none => none
    | some nd => match look nd.kids (toB n) with
      | none => none
      | some j => walkT T j r
/-- All numbers that are told are there; the root is a directory. -/
structure Good (T : Tr) : Prop where
  keys : (T.nodes.map (·.1)).Nodup
  root : ∃ n k, look T.nodes 1 = some n ∧ n.k = some k
  kids : ∀ p ∈ T.nodes, ∀ q ∈ p.2.kids, ∃ n, look T.nodes q.2 = some n
  low : ∀ p ∈ T.nodes, 1 ≤ p.1 ∧ p.1 < T.next
def findT (T : Tr) (l : List UInt8) : Option Int := if okP l then walkT T 1 (namesL l) else none
theorem walkT_snoc (T : Tr) (i : Int) (a : List (List UInt8)) (n : List UInt8) : walkT T i (a ++ [n]) = match walkT T i a with
    | none => none
    | some j => match look T.nodes j with
      | none => none
      | some nd => look nd.kids (toB n) := by
  induction a generalizing i with
  | nil =>
    simp only [List.nil_append, walkT]
    cases look T.nodes i with
    | none => rfl
    | some nd => cases h : look nd.kids (toB n) <;> simp [walkT, h]
  | cons x r ih =>
    simp only [List.cons_append, walkT]
    cases h1 : look T.nodes i with
    | none => rfl
    | some nd =>
      cases h2 : look nd.kids (toB x) with
      | none => simp only [h2]
      | some j => simp only [h2]; exact ih j
theorem walkT_there {T : Tr} (G : Good T) {i j : Int} (hi : ∃ n, look T.nodes i = some n) {a : List (List UInt8)} (h : walkT T i a = some j) : ∃ n, look T.nodes j = some n := by
  induction a generalizing i with
  | nil => injection h with h; subst h; exact hi
  | cons x r ih =>
    obtain ⟨n, hn⟩ := hi
    simp only [walkT, hn] at h
    cases hx : look n.kids (toB x) with
    | none => rw [hx] at h; cases h
    | some m =>
      rw [hx] at h
      exact ih (G.kids _ (look_mem hn) _ (look_mem hx)) h
end Go.Proofs.YtamkfadammlhbaaGreatDoor
