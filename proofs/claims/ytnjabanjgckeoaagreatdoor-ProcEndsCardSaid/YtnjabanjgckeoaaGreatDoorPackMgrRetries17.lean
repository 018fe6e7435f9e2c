/- Texts one behind the other, each in a section of its own: what calls make of memory, step by step. -/
import Derived.Test.YtnjabanjgckeoaaGreatDoorPackMgrRetries16

/- Units that run, as plain data, and what each call makes of them. -/
section
namespace Go.Proofs.YtnjabanjgckeoaaGreatDoor
open Go.RowKit
open Go.ChangeMaps (setBlock)
set_option linter.unusedVariables false
set_option linter.unusedSimpArgs false
set_option maxRecDepth 100000

theorem putV_map {α β γ : Type} [DecidableEq α] (f : β → γ) (m : List (α × β)) (a : α) (v : β) : (put m a v).map (fun p => (p.1, f p.2)) = put (m.map fun p => (p.1, f p.2)) a (f v) := by
  induction m with
  | nil => rfl
  | cons q r ih =>
    simp only [List.map_cons]
    unfold put
    split
    · rfl
    · rw [List.map_cons, ih]
theorem delV_map {α β γ : Type} [DecidableEq α] (f : β → γ) (m : List (α × β)) (a : α) : (del m a).map (fun p => (p.1, f p.2)) = del (m.map fun p => (p.1, f p.2)) a := by
  induction m with
  | nil => rfl
  | cons q r ih =>
    simp only [List.map_cons]
    unfold del
    split
    · rfl
    · rw [List.map_cons, ih]
theorem lookV_map {α β γ : Type} [DecidableEq α] (f : β → γ) (m : List (α × β)) (a : α) : look (m.map fun p => (p.1, f p.2)) a = (look m a).map f := by
  induction m with
  | nil => rfl
  | cons q r ih =>
    simp only [List.map_cons]
    unfold look
    split
    · rfl
    · exact ih

/-- A unit's state: what it is, what runs for it, how often its start was tried again, with which files it was started. -/
structure RV where
  state : Int
  pid : Int
  tries : Int
  files : List Nm
def RV.zero : RV := ⟨0, 0, 0, []⟩
/-- Files, what holds them, what runs, units' states, what has happened. -/
structure MV where
  E : Et
  held : List (Int × Int)
  last : Int
  runs : List (Int × (ByteArray × List Int × Bool))
  mr : List (Nm × RV)
  evs : List (Int × Nm)
def XV (E : Et) (held : List (Int × Int)) : VX := ⟨0, 0, 0, 0, E, 0, held, ⟨[], [], [], 0, 0, 0, false⟩, 0, 0, 0, 0, 0, []⟩
def MV.x (V : MV) : VX := XV V.E V.held
def LikeX (X X' : VX) : Prop := X.E = X'.E ∧ X.held = X'.held
theorem LikeX.code {X X' : VX} (h : LikeX X X') (l : List UInt8) : codeX X l = codeX X' l := by unfold codeX; rw [h.1]
theorem LikeX.num {X X' : VX} (h : LikeX X X') (l : List UInt8) : numX X l = numX X' l := by unfold numX; rw [h.code, h.1]
theorem LikeX.hold {X X' : VX} (h : LikeX X X') (l : List UInt8) : LikeX (holdX X l) (holdX X' l) := by
  unfold holdX
  rw [h.code, h.num, h.2]
  split
  · exact ⟨h.1, rfl⟩
  · exact h
theorem LikeX.letX {X X' : VX} (h : LikeX X X') (i : Int) : LikeX (letX X i) (letX X' i) := by
  unfold Go.Proofs.YtnjabanjgckeoaaGreatDoor.letX
  rw [h.2]
  split
  · exact h
  · split
    · exact ⟨by show reapE X.E [i] = reapE X'.E [i]; rw [h.1], rfl⟩
    · exact ⟨h.1, rfl⟩
theorem LikeX.letAll {X X' : VX} (h : LikeX X X') (ids : List Int) : LikeX (letAll X ids) (letAll X' ids) := by
  unfold Go.Proofs.YtnjabanjgckeoaaGreatDoor.letAll
  induction ids generalizing X X' with
  | nil => exact h
  | cons i r ih => exact ih (h.letX i)
theorem LikeX.holds {X X' : VX} (h : LikeX X X') (ls : List (List UInt8)) (acc : List Int) : (holdFrom (X, acc) ls).1 = (holdFrom (X', acc) ls).1 ∧ (holdFrom (X, acc) ls).2.1 = (holdFrom (X', acc) ls).2.1 ∧ LikeX (holdFrom (X, acc) ls).2.2 (holdFrom (X', acc) ls).2.2 := by
  induction ls generalizing X X' acc with
  | nil => exact ⟨rfl, rfl, h⟩
  | cons l r ih =>
    unfold holdFrom
    show (if codeX X l = 0 then _ else _ : Int × List Int × VX).1 = (if codeX X' l = 0 then _ else _ : Int × List Int × VX).1 ∧ _
    rw [h.code]
    split
    · have := ih (h.hold l) (acc ++ [numX X l])
      rw [h.num] at this ⊢
      exact this
    · exact ⟨rfl, rfl, h.letAll acc⟩
theorem HeldOk.like {M : Nat} {X X' : VX} (h : HeldOk M X) (k : LikeX X X') : HeldOk M X' := by
  unfold HeldOk at h ⊢
  rw [← k.2]
  exact h
theorem letAll_ok {M : Nat} {X : VX} (h : HeldOk M X) (ids : List Int) : HeldOk M (letAll X ids) := by
  unfold letAll
  induction ids generalizing X with
  | nil => exact h
  | cons i r ih => exact ih (letX_ok h i)
theorem HeldOk.mono {M M' : Nat} {X : VX} (h : HeldOk M X) (hm : M ≤ M') : HeldOk M' X := ⟨h.1, fun i => by have := h.2 i; omega⟩
theorem holdFrom_ok {M : Nat} {X : VX} (h : HeldOk M X) (acc : List Int) (ls : List (List UInt8)) : HeldOk (M + ls.length) (holdFrom (X, acc) ls).2.2 := by
  induction ls generalizing X acc M with
  | nil => exact h
  | cons l r ih =>
    unfold holdFrom
    show HeldOk _ (if codeX X l = 0 then _ else _ : Int × List Int × VX).2.2
    split
    · have := ih (holdX_ok h l) (acc ++ [numX X l])
      exact this.mono (by rw [List.length_cons]; omega)
    · exact (letAll_ok h acc).mono (by omega)
theorem holdFrom_len (X : VX) (acc : List Int) (ls : List (List UInt8)) : (holdFrom (X, acc) ls).2.1.length ≤ acc.length + ls.length := by
  induction ls generalizing X acc with
  | nil => exact Nat.le_refl _
  | cons l r ih =>
    unfold holdFrom
    show (if codeX X l = 0 then _ else _ : Int × List Int × VX).2.1.length ≤ _
    split
    · have := ih (holdX X l) (acc ++ [numX X l])
      simp only [List.length_append, List.length_cons, List.length_nil] at this ⊢
      exact Nat.le_trans this (by omega)
    · exact Nat.zero_le _

def ofV (V : MV) (n : Nm) : RV := (look V.mr n).getD RV.zero
def onV (V : MV) (ls : List Nm) : Bool := ls.all fun x => (ofV V x).state == 2
def turnV (V : MV) (n : Nm) (r : RV) (kind : Int) : MV := { V with mr := if r.state = 0 then del V.mr n else put V.mr n r, evs := V.evs ++ [(kind, n)] }
def spawnC (V : MV) (files : List Nm) : Int := if 8 < files.length then 22 else if 32 ≤ V.runs.length then 7 else (holdFrom (V.x, []) files).1
def spawnV (V : MV) (u : ByteArray) (files : List Nm) : MV :=
  if 8 < files.length then V else if 32 ≤ V.runs.length then V else
    if (holdFrom (V.x, []) files).1 = 0 then { V with E := (holdFrom (V.x, []) files).2.2.E, held := (holdFrom (V.x, []) files).2.2.held, last := V.last + 1, runs := put V.runs (V.last + 1) (u, (holdFrom (V.x, []) files).2.1, false) }
    else { V with E := (holdFrom (V.x, []) files).2.2.E, held := (holdFrom (V.x, []) files).2.2.held }
def issueV (V : MV) (n : Nm) (files : List Nm) (tries : Int) : Int × MV :=
  if spawnC V files = 0 then (0, turnV (spawnV V (toB n) files) n ⟨1, V.last + 1, tries, files⟩ 0) else (spawnC V files, turnV (spawnV V (toB n) files) n ⟨4, 0, 0, []⟩ 4)
def startV (us : List GU) (V : MV) (n : Nm) : Int × MV :=
  if n ∉ namesU us then (8, V) else if (ofV V n).state ≠ 0 ∧ (ofV V n).state ≠ 4 then (20, V) else if onV V (findU us n).re = false then (16, V) else issueV V n (findU us n).fi 0
def readyV (V : MV) (n : Nm) : Int × MV := if (ofV V n).state ≠ 1 then (20, V) else (0, turnV V n { ofV V n with state := 2 } 1)
def killV (V : MV) (pid : Int) : MV := match look V.runs pid with
  | none => V
  | some p => { V with runs := put V.runs pid (p.1, p.2.1, true) }
def exitV (V : MV) (pid : Int) : MV := match look V.runs pid with
  | none => V
  | some p => { V with E := (letAll V.x p.2.1).E, held := (letAll V.x p.2.1).held, runs := del V.runs pid }
def stopV (V : MV) (n : Nm) : Int × MV :=
  if (ofV V n).state = 1 ∨ (ofV V n).state = 2 then (0, turnV (killV V (ofV V n).pid) n { ofV V n with state := 3 } 2) else if (ofV V n).state = 4 then (0, turnV V n RV.zero 3) else (20, V)
def failV (us : List GU) (V : MV) (n : Nm) : Int × MV :=
  if (ofV V n).pid = 0 then (20, V) else
    if (ofV V n).state = 3 then (0, turnV (exitV V (ofV V n).pid) n RV.zero 3)
    else if (ofV V n).state = 1 ∧ n ∈ namesU us ∧ (ofV V n).tries < (findU us n).ret ∧ onV V (findU us n).re = true then (0, (issueV (exitV V (ofV V n).pid) n (findU us n).fi ((ofV V n).tries + 1)).2)
    else (0, turnV (exitV V (ofV V n).pid) n ⟨4, 0, 0, []⟩ 4)
def pickV (V : MV) (pid : Int) : Int × MV := match look V.runs pid with
  | none => (8, V)
  | some p => if p.2.2 = true then (0, turnV (exitV V pid) p.1.data.toList RV.zero 3) else (0, V)

/-- What always holds. -/
structure Gd (N : Nat) (V : MV) : Prop where
  held : HeldOk (8 * N) V.x
  keys : (V.runs.map (·.1)).Nodup
  last : 0 ≤ V.last ∧ V.last ≤ N
  each : ∀ p ∈ V.runs, (1 ≤ p.1 ∧ p.1 ≤ V.last) ∧ p.2.2.1.length ≤ 8
  evs : V.evs.length ≤ N
  few : V.mr.length ≤ N
  lens : ∀ p ∈ V.mr, p.1.length ≤ p.1.length
  nodup : (V.mr.map (·.1)).Nodup
  some_ : V.runs.length ≤ N
  tri : ∀ p ∈ V.mr, 0 ≤ p.2.tries ∧ p.2.tries ≤ N
theorem put_len {α β : Type} [DecidableEq α] (m : List (α × β)) (a : α) (v : β) : (put m a v).length ≤ m.length + 1 := by
  induction m with
  | nil => exact Nat.le_refl _
  | cons q r ih =>
    unfold put
    split
    · simp
    · simp only [List.length_cons]; omega
theorem put_mem {α β : Type} [DecidableEq α] {m : List (α × β)} {a : α} {v : β} {p : α × β} (h : p ∈ put m a v) : p = (a, v) ∨ p ∈ m := by
  induction m with
  | nil =>
    unfold put at h
    exact .inl (List.mem_singleton.1 h)
  | cons q r ih =>
    unfold put at h
    split at h
    · rcases List.mem_cons.1 h with h | h
      · exact .inl h
      · exact .inr (List.mem_cons_of_mem _ h)
    · rcases List.mem_cons.1 h with h | h
      · exact .inr (h ▸ List.mem_cons_self ..)
      · exact (ih h).imp id (List.mem_cons_of_mem _)
theorem Gd.mono {N M : Nat} {V : MV} (h : Gd N V) (hm : N ≤ M) : Gd M V :=
  ⟨h.held.mono (by omega), h.keys, ⟨h.last.1, by have := h.last.2; omega⟩, h.each, Nat.le_trans h.evs hm, Nat.le_trans h.few hm, h.lens, h.nodup, Nat.le_trans h.some_ hm, fun p hp => by have := h.tri p hp; omega⟩
theorem Gd.of {N : Nat} {V : MV} (h : Gd N V) (n : Nm) : 0 ≤ (ofV V n).tries ∧ (ofV V n).tries ≤ N := by
  unfold ofV
  cases hl : look V.mr n with
  | none => exact ⟨Int.le_refl 0, by show (0 : Int) ≤ N; omega⟩
  | some r => exact h.tri _ (look_mem hl)
theorem Gd.turn {N : Nat} {V : MV} (h : Gd N V) (n : Nm) (r : RV) (kind : Int) (hn : n.length ≤ n.length) (hr : 0 ≤ r.tries ∧ r.tries ≤ N + 1) : Gd (N + 1) (turnV V n r kind) := by
  have h1 := h.mono (Nat.le_succ N)
  refine ⟨h1.held, h1.keys, h1.last, h1.each, ?_, ?_, ?_, ?_, h1.some_, ?_⟩
  · show (V.evs ++ [_]).length ≤ N + 1
    have := h.evs
    simp; omega
  · show (if r.state = 0 then del V.mr n else put V.mr n r).length ≤ N + 1
    have h2 := h.few
    split
    · have := (del_sub V.mr n).length_le; omega
    · have := put_len V.mr n r; omega
  · intro p hp
    have hp' : p ∈ (if r.state = 0 then del V.mr n else put V.mr n r) := hp
    split at hp'
    · exact h.lens p ((del_sub V.mr n).subset hp')
    · rcases put_mem hp' with rfl | hp'
      · exact hn
      · exact h.lens p hp'
  · show ((if r.state = 0 then del V.mr n else put V.mr n r).map (·.1)).Nodup
    split
    · exact h.nodup.sublist ((del_sub _ _).map _)
    · exact put_nodup h.nodup _ _
  · intro p hp
    have hp' : p ∈ (if r.state = 0 then del V.mr n else put V.mr n r) := hp
    split at hp'
    · exact h1.tri p ((del_sub V.mr n).subset hp')
    · rcases put_mem hp' with rfl | hp'
      · exact ⟨hr.1, by show r.tries ≤ ((N + 1 : Nat) : Int); omega⟩
      · exact h1.tri p hp'
theorem Gd.exit {N : Nat} {V : MV} (h : Gd N V) (pid : Int) : Gd N (exitV V pid) := by
  unfold exitV
  cases hl : look V.runs pid with
  | none => exact h
  | some p =>
    have hs : (del V.runs pid).Sublist V.runs := del_sub _ _
    exact ⟨(letAll_ok h.held p.2.1).like ⟨rfl, rfl⟩, h.keys.sublist (hs.map _), h.last, fun q hq => h.each q (hs.subset hq), h.evs, h.few, h.lens, h.nodup, Nat.le_trans hs.length_le h.some_, h.tri⟩
theorem put_keyslen {α β : Type} [DecidableEq α] {m : List (α × β)} {a : α} {v w : β} (h : look m a = some v) : (put m a w).length = m.length := by
  induction m with
  | nil => cases h
  | cons q r ih =>
    unfold look at h
    unfold put
    split at h
    · rename_i hq
      rw [if_pos hq]; rfl
    · rename_i hq
      rw [if_neg hq, List.length_cons, ih h, List.length_cons]
theorem Gd.kill {N : Nat} {V : MV} (h : Gd N V) (pid : Int) : Gd N (killV V pid) := by
  unfold killV
  cases hl : look V.runs pid with
  | none => exact h
  | some p =>
    have hm := h.each _ (look_mem hl)
    refine ⟨h.held, put_nodup h.keys _ _, h.last, fun q hq => ?_, h.evs, h.few, h.lens, h.nodup, by show (put V.runs pid _).length ≤ N; rw [put_keyslen hl]; exact h.some_, h.tri⟩
    rcases put_mem hq with rfl | hq
    · exact hm
    · exact h.each q hq
theorem Gd.spawn {N : Nat} {V : MV} (h : Gd N V) (u : ByteArray) (files : List Nm) : Gd (N + 1) (spawnV V u files) := by
  have h1 := h.mono (Nat.le_succ N)
  unfold spawnV
  split
  · exact h1
  split
  · exact h1
  rename_i h8 h32
  have hk : HeldOk (8 * (N + 1)) (holdFrom (V.x, []) files).2.2 := (holdFrom_ok h.held [] files).mono (by omega)
  split
  · have hlen := holdFrom_len V.x [] files
    refine ⟨hk.like ⟨rfl, rfl⟩, put_nodup h.keys _ _, ?_, fun q hq => ?_, h1.evs, h1.few, h1.lens, h1.nodup, ?_, h1.tri⟩
    · have := h.last
      show 0 ≤ V.last + 1 ∧ V.last + 1 ≤ ((N + 1 : Nat) : Int)
      omega
    · have h0 := h.last
      rcases put_mem hq with rfl | hq
      · refine ⟨⟨?_, Int.le_refl _⟩, ?_⟩
        · show 1 ≤ V.last + 1; omega
        · show (holdFrom (V.x, []) files).2.1.length ≤ 8
          simp only [List.length_nil] at hlen
          omega
      · obtain ⟨⟨q1, q2⟩, q3⟩ := h.each q hq
        exact ⟨⟨q1, by show q.1 ≤ V.last + 1; omega⟩, q3⟩
    · show (put V.runs _ _).length ≤ N + 1
      have := put_len V.runs (V.last + 1) (u, (holdFrom (V.x, []) files).2.1, false)
      have := h.some_
      omega
  · exact ⟨hk.like ⟨rfl, rfl⟩, h1.keys, h1.last, h1.each, h1.evs, h1.few, h1.lens, h1.nodup, h1.some_, h1.tri⟩
theorem Gd.free {N : Nat} {V : MV} (h : Gd N V) : look V.runs (V.last + 1) = none := by
  cases hl : look V.runs (V.last + 1) with
  | none => rfl
  | some p =>
    have := (h.each _ (look_mem hl)).1.2
    dsimp only at this
    omega
theorem Gd.issue {N : Nat} {V : MV} (h : Gd N V) (n : Nm) (files : List Nm) (tries : Int) (hn : n.length ≤ n.length) (ht : 0 ≤ tries ∧ tries ≤ N + 1) : Gd (N + 2) (issueV V n files tries).2 := by
  unfold issueV
  split
  · exact (h.spawn _ _).turn n _ 0 hn ⟨ht.1, by show tries ≤ _; omega⟩
  · exact (h.spawn _ _).turn n _ 4 hn ⟨Int.le_refl 0, by show (0 : Int) ≤ (_ : Int) + 1; omega⟩
theorem Gd.start {N : Nat} {V : MV} (h : Gd N V) (us : List GU) (n : Nm) (hn : n.length ≤ n.length) : Gd (N + 2) (startV us V n).2 := by
  have h2 := h.mono (Nat.le_add_right N 2)
  unfold startV
  split
  · exact h2
  split
  · exact h2
  split
  · exact h2
  · exact h.issue n _ 0 hn ⟨Int.le_refl 0, by omega⟩
theorem Gd.ready {N : Nat} {V : MV} (h : Gd N V) (n : Nm) (hn : n.length ≤ n.length) : Gd (N + 2) (readyV V n).2 := by
  unfold readyV
  split
  · exact h.mono (Nat.le_add_right N 2)
  · exact Gd.mono (N := N + 1) (h.turn n _ 1 hn ⟨(h.of n).1, by have := (h.of n).2; show (ofV V n).tries ≤ (N : Int) + 1; omega⟩) (by omega)
theorem Gd.stop {N : Nat} {V : MV} (h : Gd N V) (n : Nm) (hn : n.length ≤ n.length) : Gd (N + 2) (stopV V n).2 := by
  unfold stopV
  split
  · exact Gd.mono (N := N + 1) ((h.kill _).turn n _ 2 hn ⟨(h.of n).1, by have := (h.of n).2; show (ofV V n).tries ≤ (N : Int) + 1; omega⟩) (by omega)
  split
  · exact Gd.mono (N := N + 1) (h.turn n _ 3 hn ⟨Int.le_refl 0, by show (0 : Int) ≤ (_ : Int) + 1; omega⟩) (by omega)
  · exact h.mono (Nat.le_add_right N 2)
theorem Gd.fail {N : Nat} {V : MV} (h : Gd N V) (us : List GU) (n : Nm) (hn : n.length ≤ n.length) : Gd (N + 2) (failV us V n).2 := by
  unfold failV
  split
  · exact h.mono (Nat.le_add_right N 2)
  split
  · exact Gd.mono (N := N + 1) ((h.exit _).turn n _ 3 hn ⟨Int.le_refl 0, by show (0 : Int) ≤ (_ : Int) + 1; omega⟩) (by omega)
  split
  · exact (h.exit _).issue n _ _ hn ⟨by have := (h.of n).1; omega, by have := (h.of n).2; omega⟩
  · exact Gd.mono (N := N + 1) ((h.exit _).turn n _ 4 hn ⟨Int.le_refl 0, by show (0 : Int) ≤ (_ : Int) + 1; omega⟩) (by omega)
theorem exit_mr (V : MV) (pid : Int) : (exitV V pid).mr = V.mr := by
  unfold exitV
  cases look V.runs pid <;> rfl
theorem on_exit (V : MV) (pid : Int) (ls : List Nm) : onV (exitV V pid) ls = onV V ls := by
  unfold onV ofV
  rw [exit_mr]
theorem pick_none {V : MV} {pid : Int} (h : look V.runs pid = none) : pickV V pid = (8, V) := by unfold pickV; rw [h]
theorem Gd.pick {N : Nat} {V : MV} (h : Gd N V) (pid : Int) (hn : ∀ p ∈ V.runs, p.2.1.size ≤ 1000000) : Gd (N + 2) (pickV V pid).2 := by
  unfold pickV
  cases hl : look V.runs pid with
  | none => exact h.mono (Nat.le_add_right N 2)
  | some p =>
    dsimp only
    split
    · refine ((h.exit pid).turn p.1.data.toList RV.zero 3 ?_ ⟨Int.le_refl 0, by show (0 : Int) ≤ (_ : Int) + 1; omega⟩).mono (by omega)
      exact Nat.le_refl _
    · exact h.mono (Nat.le_add_right N 2)
end Go.Proofs.YtnjabanjgckeoaaGreatDoor
end

/- A manager in memory, over a table and its volume. -/
section
namespace Go.Proofs.YtnjabanjgckeoaaGreatDoor
open Go.RowKit
open Go.ChangeMaps (setBlock)
set_option linter.unusedVariables false
set_option linter.unusedSimpArgs false
set_option maxRecDepth 100000

structure RunD where
  state : Int
  pid : Int
  hv : Value
  tries : Int
  files : List Nm
def RunD.val (r : RunD) : Value := .agg #[.int .i64 r.state, .int .i64 r.pid, r.hv, .int .i64 r.tries]
def RunD.zero : RunD := ⟨0, 0, .slice none 0 0, 0, []⟩
def RunD.view (r : RunD) : RV := ⟨r.state, r.pid, r.tries, r.files⟩
def RunD.Ok (L0 : List Rw) (r : RunD) : Prop := (r.hv = .slice none 0 0 ∧ r.files = []) ∨ rowSs r.hv r.files ∈ L0
theorem RunD.Ok.mono {L0 L1 : List Rw} {r : RunD} (h : r.Ok L0) (hs : ∀ x ∈ L0, x ∈ L1) : r.Ok L1 := h.imp id (hs _)
structure MS where
  m : Nat
  g : Nat
  rb : Nat
  ev : Value
  evs : List (Int × Nm)
  runs : List (Nm × RunD)
def MS.of (M : MS) (n : Nm) : RunD := (look M.runs n).getD RunD.zero
def runsR (l : List (Nm × RunD)) : List (Nm × Value) := l.map fun p => (p.1, p.2.val)
def evC (l : List (Int × Nm)) : List Value := (l.map fun e => [Value.int .i64 e.1, .string (toB e.2)]).flatten
theorem evC_snoc (l : List (Int × Nm)) (k : Int) (n : Nm) : evC (l ++ [(k, n)]) = evC l ++ [.int .i64 k, .string (toB n)] := by simp [evC]
def rowEv (v : Value) (l : List (Int × Nm)) : Rw := ⟨92, 2, v, l.length, evC l⟩
def mgCells (tb : Nat) (M : MS) : Array Value := #[.pointer (some ⟨tb, 0, none⟩), .pointer (some ⟨M.g, 0, none⟩), .map (some M.rb), M.ev]
/-- A manager: its blocks are known beside others, the row of what has happened lies on top. -/
structure MgIn (w0 : World) (K : Blocks) (L0 : List Rw) (v : Nat) (X : VX) (Y : Tab) (M : MS) (w : World) : Prop where
  x : ∃ o, VTX w0 ((M.m, .cells (mgCells Y.tb M) 90) :: (M.rb, o) :: K) L0 v X Y [rowEv M.ev M.evs] w ∧ MapO keyN o (runsR M.runs)
  ne : M.m ≠ M.rb
  off : ∀ b x, (b, x) ∈ K → b ≠ M.m ∧ b ≠ M.rb
  has : ∀ p ∈ M.runs, p.2.Ok L0
theorem und_runs : Tryz.prog.underlying 87 = some (.map 9 150) := by kernel_rfl
section
variable {w0 w w' : World} {K K' : Blocks} {S' : Blocks} {L0 L1 N : List Rw} {v : Nat} {X : VX} {Y : Tab} {M : MS}
theorem MgIn.ok (h : MgIn w0 K L0 v X Y M w) (n : Nm) : (M.of n).Ok L0 := by
  unfold MS.of
  cases hl : look M.runs n with
  | none => exact .inl ⟨rfl, rfl⟩
  | some r => exact h.has _ (look_mem hl)
theorem MgIn.below (h : MgIn w0 K L0 v X Y M w) : Below w0.heap.size w0 w := by
  obtain ⟨o, h1, _⟩ := h.x
  exact h1.below
theorem MgIn.later (h : MgIn w0 K L0 v X Y M w) (hb : Below w.heap.size w w') : MgIn w0 K L0 v X Y M w' := by
  obtain ⟨o, h1, h2⟩ := h.x
  exact { h with x := ⟨o, h1.later hb, h2⟩ }
theorem MgIn.block (h : MgIn w0 K L0 v X Y M w) : w.heap[M.m]? = some (.cells (mgCells Y.tb M) 90) := by
  obtain ⟨o, h1, _⟩ := h.x
  exact h1.cellK (List.mem_cons_self ..)
theorem MgIn.cells (h : MgIn w0 K L0 v X Y M w) : (w.cell? ⟨M.m, 0, none⟩ = some (.pointer (some ⟨Y.tb, 0, none⟩)) ∧ w.cell? ⟨M.m, 1, none⟩ = some (.pointer (some ⟨M.g, 0, none⟩)) ∧ w.cell? ⟨M.m, 2, none⟩ = some (.map (some M.rb)) ∧ w.cell? ⟨M.m, 3, none⟩ = some M.ev) ∧ ∀ j, w.frozen? ⟨M.m, j, none⟩ = false :=
  ⟨⟨cell_at h.block 0, cell_at h.block 1, cell_at h.block 2, cell_at h.block 3⟩, fun j => free_at h.block j⟩
theorem MgIn.evForm (h : MgIn w0 K L0 v X Y M w) : ∃ a c, M.ev = .slice a M.evs.length c := by
  obtain ⟨o, h1, _⟩ := h.x
  obtain ⟨S, N, hO, _, _⟩ := h1.grow
  obtain ⟨a, c, e, _⟩ := Own.sized (h := (show Own _ w (⟨92, 2, M.ev, M.evs.length, evC M.evs⟩ :: N) from hO))
  exact ⟨a, c, e⟩
theorem MgIn.lookup (h : MgIn w0 K L0 v X Y M w) (n : Nm) : (Instr.lookup 87 (.map (some M.rb)) (.string (toB n)) false).run Tryz.prog w = .ok (M.of n).val w := by
  obtain ⟨o, h1, h2⟩ := h.x
  have hl := MapO.lookup (P := Tryz.prog) (kindsN und_str) und_runs (z := RunD.zero.val) (by kernel_rfl) h2 (h1.cellK (List.mem_cons_of_mem _ (List.mem_cons_self ..))) n false
  rw [show look (runsR M.runs) n = (look M.runs n).map RunD.val from lookV_map RunD.val M.runs n] at hl
  have e : ((look M.runs n).map RunD.val).getD RunD.zero.val = (M.of n).val := by
    unfold MS.of
    cases look M.runs n <;> rfl
  simp only [Bool.false_eq_true, if_false, e] at hl
  exact hl
/-- The map of units' states is turned. -/
theorem MgIn.turnMap (h : MgIn w0 K L0 v X Y M w) (o' : Obj) {rs : List (Nm × RunD)} (hm : MapO keyN o' (runsR rs)) (hh : ∀ p ∈ rs, p.2.Ok L0) : MgIn w0 K L0 v X Y { M with runs := rs } (setBlock w M.rb o') := by
  obtain ⟨o, h1, h2⟩ := h.x
  have h3 : VTX w0 ((M.rb, o) :: (M.m, .cells (mgCells Y.tb M) 90) :: K) L0 v X Y [rowEv M.ev M.evs] w := h1.subK fun b x hb => by
    rcases List.mem_cons.1 hb with hb | hb
    · exact hb ▸ List.mem_cons_of_mem _ (List.mem_cons_self ..)
    · rcases List.mem_cons.1 hb with hb | hb
      · exact hb ▸ List.mem_cons_self ..
      · exact List.mem_cons_of_mem _ (List.mem_cons_of_mem _ hb)
  have h4 := h3.turnK (fun c y hc => by
    rcases List.mem_cons.1 hc with hc | hc
    · obtain ⟨rfl, rfl⟩ := Prod.mk.inj hc
      exact h.ne
    · exact (h.off c y hc).2) o'
  refine ⟨⟨o', h4.subK fun b x hb => ?_, hm⟩, h.ne, h.off, hh⟩
  rcases List.mem_cons.1 hb with hb | hb
  · exact hb ▸ List.mem_cons_of_mem _ (List.mem_cons_self ..)
  · rcases List.mem_cons.1 hb with hb | hb
    · exact hb ▸ List.mem_cons_self ..
    · exact List.mem_cons_of_mem _ (List.mem_cons_of_mem _ hb)
theorem MgIn.delete (h : MgIn w0 K L0 v X Y M w) (n : Nm) : ∃ o', (Builtin.delete_ #[87, 9] 0 #[.map (some M.rb), .string (toB n)]).run Tryz.prog w = .ok (.tuple #[]) (setBlock w M.rb o') ∧ MgIn w0 K L0 v X Y { M with runs := del M.runs n } (setBlock w M.rb o') := by
  obtain ⟨o, h1, h2⟩ := h.x
  obtain ⟨o', e1, e2⟩ := h2.delete (P := Tryz.prog) (kindsN und_str) und_runs (h1.cellK (List.mem_cons_of_mem _ (List.mem_cons_self ..))) n 0
  rw [show del (runsR M.runs) n = runsR (del M.runs n) from (delV_map RunD.val M.runs n).symm] at e2
  exact ⟨o', e1, h.turnMap o' e2 fun p hp => h.has p ((del_sub M.runs n).subset hp)⟩
theorem MgIn.update (h : MgIn w0 K L0 v X Y M w) (n : Nm) {r : RunD} (hr : r.Ok L0) : ∃ o', (Instr.mapUpdate 87 (.map (some M.rb)) (.string (toB n)) r.val).run Tryz.prog w = .ok () (setBlock w M.rb o') ∧ MgIn w0 K L0 v X Y { M with runs := put M.runs n r } (setBlock w M.rb o') := by
  obtain ⟨o, h1, h2⟩ := h.x
  obtain ⟨o', e1, e2⟩ := h2.update (P := Tryz.prog) (kindsN und_str) und_runs (h1.cellK (List.mem_cons_of_mem _ (List.mem_cons_self ..))) n r.val
  rw [show put (runsR M.runs) n r.val = runsR (put M.runs n r) from (putV_map RunD.val M.runs n r).symm] at e2
  refine ⟨o', e1, h.turnMap o' e2 fun p hp => ?_⟩
  rcases put_mem hp with rfl | hp
  · exact hr
  · exact h.has p hp
theorem MgIn.turnCell (h : MgIn w0 K L0 v X Y M w) (j : Nat) (u : Value) {M' : MS} (hm : M'.m = M.m) (hr : M'.rb = M.rb) (hs : M'.runs = M.runs) (hev : M'.ev = M.ev) (hevs : M'.evs = M.evs) (hc : (mgCells Y.tb M).setIfInBounds j u = mgCells Y.tb M') : MgIn w0 K L0 v X Y M' (w.setCell ⟨M.m, j, none⟩ u) := by
  obtain ⟨o, h1, h2⟩ := h.x
  have h4 := h1.turnK (fun c y hcy => by
    rcases List.mem_cons.1 hcy with hcy | hcy
    · obtain ⟨rfl, rfl⟩ := Prod.mk.inj hcy
      exact fun e => h.ne e.symm
    · exact (h.off c y hcy).1) (.cells (mgCells Y.tb M') 90)
  rw [set_at h.block, hc]
  refine ⟨⟨o, ?_, by rw [hs]; exact h2⟩, by rw [hm, hr]; exact h.ne, by rw [hm, hr]; exact h.off, by rw [hs]; exact h.has⟩
  rw [hm, hr, hev, hevs]
  exact h4
theorem MgIn.setG (h : MgIn w0 K L0 v X Y M w) (g : Nat) : MgIn w0 K L0 v X Y { M with g := g } (w.setCell ⟨M.m, 1, none⟩ (.pointer (some ⟨g, 0, none⟩))) :=
  h.turnCell 1 _ rfl rfl rfl rfl rfl rfl
/-- The row of what has happened is worked on, and told to the manager. -/
theorem MgIn.grow (h : MgIn w0 K L0 v X Y M w) : ∃ S N, Own ⟨w0, S⟩ w (rowEv M.ev M.evs :: N) ∧ ∀ w' ev' evs', Own ⟨w0, S⟩ w' (rowEv ev' evs' :: N) → (w'.cell? ⟨M.m, 3, none⟩ = some M.ev ∧ w'.frozen? ⟨M.m, 3, none⟩ = false) ∧ MgIn w0 K L0 v X Y { M with ev := ev', evs := evs' } (w'.setCell ⟨M.m, 3, none⟩ ev') := by
  obtain ⟨o, h1, h2⟩ := h.x
  obtain ⟨S, N, hO, hK, back⟩ := h1.grow
  refine ⟨S, N, hO, fun w' ev' evs' hO' => ?_⟩
  have hb : w'.heap[M.m]? = some (.cells (mgCells Y.tb M) 90) := hO'.at (hK _ _ (List.mem_cons_self ..))
  refine ⟨⟨cell_at hb 3, free_at hb 3⟩, ?_⟩
  have h4 := (back w' [rowEv ev' evs'] hO').turnK (fun c y hcy => by
    rcases List.mem_cons.1 hcy with hcy | hcy
    · obtain ⟨rfl, rfl⟩ := Prod.mk.inj hcy
      exact fun e => h.ne e.symm
    · exact (h.off c y hcy).1) (.cells (mgCells Y.tb { M with ev := ev', evs := evs' }) 90)
  rw [set_at hb]
  exact ⟨⟨o, h4, h2⟩, h.ne, h.off, h.has⟩
theorem MgIn.join (h : MgIn w0 K L0 v X Y M w) (k : Own ⟨w, S'⟩ w' N) : MgIn w0 (S' ++ K) (N ++ L0) v X Y M w' := by
  obtain ⟨o, h1, h2⟩ := h.x
  obtain ⟨L, hO, _⟩ := h1.ownK
  refine ⟨⟨o, (h1.join k).subK fun b x hb => ?_, h2⟩, h.ne, fun b x hb => ?_, fun p hp => (h.has p hp).mono fun x hx => List.mem_append_right _ hx⟩
  · rcases List.mem_cons.1 hb with hb | hb
    · exact hb ▸ List.mem_append_right _ (List.mem_cons_self ..)
    · rcases List.mem_cons.1 hb with hb | hb
      · exact hb ▸ List.mem_append_right _ (List.mem_cons_of_mem _ (List.mem_cons_self ..))
      · rcases List.mem_append.1 hb with hb | hb
        · exact List.mem_append_left _ hb
        · exact List.mem_append_right _ (List.mem_cons_of_mem _ (List.mem_cons_of_mem _ hb))
  · rcases List.mem_append.1 hb with hb | hb
    · have h3 : w.heap.size ≤ b := (k.maps _ hb).1
      have h4 := (hO.atLt (List.mem_cons_self ..)).2
      have h5 := (hO.atLt (List.mem_cons_of_mem _ (List.mem_cons_self ..))).2
      omega
    · exact h.off b x hb
/-- A call of the table, or of the volume. -/
theorem MgIn.call {α : Type} {f : FuncId} {args : Array Value} {P : α → Ending → Prop} {X' : α → VX} {Y' : α → Tab} (h : MgIn w0 K L0 v X Y M w) (ht : ∀ a, (Y' a).tb = Y.tb)
    (hc : ∀ K' : Blocks, VT w0 K' L0 v X Y w → Calls Tryz.prog f args w fun r w' => ∃ a, P a r ∧ VT w0 K' L0 v (X' a) (Y' a) w') :
    Calls Tryz.prog f args w fun r w' => ∃ a, P a r ∧ MgIn w0 K L0 v (X' a) (Y' a) M w' := by
  obtain ⟨o, h1, h2⟩ := h.x
  refine (VTX.call1 (P := P) (X' := X') (Y' := Y') (show VTX w0 _ L0 v X Y [⟨92, 2, M.ev, M.evs.length, evC M.evs⟩] w from h1) fun K' _ hV => hc K' hV).mono fun r w' hh => ?_
  obtain ⟨a, h3, h4⟩ := hh
  refine ⟨a, h3, ⟨o, ?_, h2⟩, h.ne, h.off, h.has⟩
  rw [ht a]
  exact h4
theorem MgIn.sts (h : MgIn w0 K L0 v X Y M w) {hv : Value} {fs : List Nm} (hr : rowSs hv fs ∈ L0) : Sts w hv fs := by
  obtain ⟨o, h1, _⟩ := h.x
  exact h1.sts hr
theorem GK.atM {g : Nat} {us : List GU} {ord : List Nm} (k : GK w0 K L0 g us ord) (h : MgIn w0 K L0 v X Y M w) : GAt w g us ord := by
  obtain ⟨o, h1, _⟩ := h.x
  exact k.at (h1.subK fun b x hb => List.mem_cons_of_mem _ (List.mem_cons_of_mem _ hb))
end

def vwP (p : Pr) : ByteArray × List Int × Bool := (p.u, p.maps, p.ends)
def vw (X : VX) (Y : Tab) (M : MS) : MV := ⟨X.E, X.held, Y.last, Y.runs.map fun p => (p.1, vwP p.2), M.runs.map fun p => (p.1, p.2.view), M.evs⟩
/-- A manager as plain data: of the volume v, at mb, over the table at tb, with the units of the graph at gb. -/
def MgAt (w0 : World) (v mb tb gb : Nat) (us : List GU) (ord : List Nm) (N : Nat) (V : MV) (w : World) : Prop :=
  ∃ K L0 X Y M, MgIn w0 K L0 v X Y M w ∧ vw X Y M = V ∧ M.m = mb ∧ Y.tb = tb ∧ M.g = gb ∧ GK w0 K L0 gb us ord ∧ Gd N V
theorem of_vw (X : VX) (Y : Tab) (M : MS) (n : Nm) : ofV (vw X Y M) n = (M.of n).view := by
  unfold ofV MS.of
  show (look (M.runs.map fun p => (p.1, p.2.view)) n).getD RV.zero = _
  rw [lookV_map RunD.view]
  cases look M.runs n <;> rfl
theorem runs_vw (X : VX) (Y : Tab) (M : MS) (pid : Int) : look (vw X Y M).runs pid = (look Y.runs pid).map vwP := lookV_map vwP Y.runs pid
section
variable {w0 w w' : World} {v mb tb gb N : Nat} {us : List GU} {ord : List Nm} {V : MV}
theorem MgAt.below (h : MgAt w0 v mb tb gb us ord N V w) : Below w0.heap.size w0 w := by
  obtain ⟨K, L0, X, Y, M, h1, _⟩ := h
  exact h1.below
theorem MgAt.later (h : MgAt w0 v mb tb gb us ord N V w) (hb : Below w.heap.size w w') : MgAt w0 v mb tb gb us ord N V w' := by
  obtain ⟨K, L0, X, Y, M, h1, h2⟩ := h
  exact ⟨K, L0, X, Y, M, h1.later hb, h2⟩
theorem MgAt.good (h : MgAt w0 v mb tb gb us ord N V w) : Gd N V := by
  obtain ⟨K, L0, X, Y, M, _, _, _, _, _, _, h1⟩ := h
  exact h1
theorem MgAt.mono (h : MgAt w0 v mb tb gb us ord N V w) {N' : Nat} (hn : N ≤ N') : MgAt w0 v mb tb gb us ord N' V w := by
  obtain ⟨K, L0, X, Y, M, h1, h2, h3, h4, h5, h6, h7⟩ := h
  exact ⟨K, L0, X, Y, M, h1, h2, h3, h4, h5, h6, h7.mono hn⟩
end
end Go.Proofs.YtnjabanjgckeoaaGreatDoor
end

/- State, Pid, Has, turn, allOn, Set, Graph, Events. -/
section
namespace Go.Proofs.YtnjabanjgckeoaaGreatDoor
open Go.RowKit
open Go.ChangeMaps (setBlock)
set_option linter.unusedVariables false
set_option linter.unusedSimpArgs false
set_option maxRecDepth 100000

section
variable {w0 w w' : World} {K : Blocks} {L0 : List Rw} {v : Nat} {X : VX} {Y : Tab} {M : MS}
theorem MgIn.drew1 (h : MgIn w0 K L0 v X Y M w) : MgIn w0 K L0 v X Y M w.drew := h.later (Below.refl _ _).drew
theorem RunD.Ok.shape (h : MgIn w0 K L0 v X Y M w) {r : RunD} (hr : r.Ok L0) : ∃ a c, r.hv = .slice a r.files.length c := by
  rcases hr with ⟨h1, h2⟩ | hr
  · exact ⟨none, 0, by rw [h1, h2]; rfl⟩
  · obtain ⟨a, c, e, _⟩ := h.sts hr
    exact ⟨a, c, e⟩
theorem MgIn.shape (h : MgIn w0 K L0 v X Y M w) (n : Nm) : ∃ a c, (M.of n).hv = .slice a (M.of n).files.length c := (h.ok n).shape h
theorem RunD.Ok.sts (h : MgIn w0 K L0 v X Y M w) {r : RunD} (hr : r.Ok L0) : Sts w r.hv r.files := by
  rcases hr with ⟨h1, h2⟩ | hr
  · rw [h1, h2]; exact sts_nil w
  · exact h.sts hr
theorem field_run (st pid tr : Int) (a : Option Addr) (m c : Nat) (w : World) : (Instr.field 150 (.agg #[.int .i64 st, .int .i64 pid, .slice a m c, .int .i64 tr]) 0).run Tryz.prog w = .ok (.int .i64 st) w ∧ (Instr.field 150 (.agg #[.int .i64 st, .int .i64 pid, .slice a m c, .int .i64 tr]) 1).run Tryz.prog w = .ok (.int .i64 pid) w ∧ (Instr.field 150 (.agg #[.int .i64 st, .int .i64 pid, .slice a m c, .int .i64 tr]) 2).run Tryz.prog w = .ok (.slice a m c) w :=
  ⟨by kernel_rfl, by kernel_rfl, by kernel_rfl⟩
set_option maxHeartbeats 1000000 in
theorem state_in (h : MgIn w0 K L0 v X Y M w) (n : Nm) : Calls Tryz.prog 39 #[.pointer (some ⟨M.m, 0, none⟩), .string (toB n)] w fun e w' => e = .returned (.int .i64 (M.of n).state) ∧ w = w' := by
  obtain ⟨⟨c0, c1, c2, c3⟩, hf⟩ := h.cells
  obtain ⟨a, c, hs⟩ := h.shape n
  have hl := h.lookup n
  unfold RunD.val at hl
  rw [hs] at hl
  clear h hs c0 c1 c3 hf
  generalize toB n = nb at *
  generalize M.of n = r at *
  obtain ⟨st, pid, hv, tr, fs⟩ := r
  dsimp only at hl ⊢
  have hfr := field_run st pid tr a fs.length c w
  obtain ⟨f0, f1, f2⟩ := hfr
  go_enter Tryz.func39, Tryz.ntmps39
  go_wp2_with fail
  go_ret
  exact ⟨rfl, rfl⟩
set_option maxHeartbeats 1000000 in
theorem pid_in (h : MgIn w0 K L0 v X Y M w) (n : Nm) : Calls Tryz.prog 36 #[.pointer (some ⟨M.m, 0, none⟩), .string (toB n)] w fun e w' => e = .returned (.int .i64 (M.of n).pid) ∧ w = w' := by
  obtain ⟨⟨c0, c1, c2, c3⟩, hf⟩ := h.cells
  obtain ⟨a, c, hs⟩ := h.shape n
  have hl := h.lookup n
  unfold RunD.val at hl
  rw [hs] at hl
  clear h hs c0 c1 c3 hf
  generalize toB n = nb at *
  generalize M.of n = r at *
  obtain ⟨st, pid, hv, tr, fs⟩ := r
  dsimp only at hl ⊢
  have hfr := field_run st pid tr a fs.length c w
  obtain ⟨f0, f1, f2⟩ := hfr
  go_enter Tryz.func36, Tryz.ntmps36
  go_wp2_with fail
  go_ret
  exact ⟨rfl, rfl⟩
set_option maxHeartbeats 1000000 in
theorem has_in (h : MgIn w0 K L0 v X Y M w) (n : Nm) (hlen : (M.of n).files.length ≤ 1000000) : Calls Tryz.prog 43 #[.pointer (some ⟨M.m, 0, none⟩), .string (toB n)] w fun e w' => ∃ v', e = .returned v' ∧ Own w w' [rowSs v' (M.of n).files] := by
  obtain ⟨⟨c0, c1, c2, c3⟩, hf⟩ := h.cells
  obtain ⟨a, c, hs⟩ := h.shape n
  have hl := h.lookup n
  have hst := (h.ok n).sts h
  rw [hs] at hst
  have hcl := cloneS_sts _ _ w hst hlen
  unfold RunD.val at hl
  rw [hs] at hl
  clear h hs hst hlen c0 c1 c3 hf
  generalize toB n = nb at *
  generalize M.of n = r at *
  obtain ⟨st, pid, hv, tr, fs⟩ := r
  dsimp only at hl hcl ⊢
  have hfr := field_run st pid tr a fs.length c w
  obtain ⟨f0, f1, f2⟩ := hfr
  go_enter Tryz.func43, Tryz.ntmps43
  go_wp2_with (go_at_call 80; refine hcl.mono ?_; rintro e w' ⟨v', rfl, hO⟩)
  go_ret
  exact ⟨_, rfl, hO⟩
theorem info_ev : ∃ i, Tryz.prog.info? 92 = some i ∧ i.zero = some (.agg #[.int .i64 0, .string ⟨#[]⟩]) ∧ i.size = 2 ∧ i.bytes = 24 := by
  have h : (Tryz.prog.info? 92).map (fun i => (i.zero, i.size, i.bytes)) = some (some (.agg #[.int .i64 0, .string ⟨#[]⟩]), 2, 24) := by kernel_rfl
  obtain ⟨i, h1, h2⟩ := Option.map_eq_some_iff.1 h
  simp only [Prod.mk.injEq] at h2
  exact ⟨i, h1, h2.1, h2.2.1, h2.2.2⟩
set_option maxHeartbeats 4000000 in
theorem turn_in (h : MgIn w0 K L0 v X Y M w) (n : Nm) {r : RunD} (hr : r.Ok L0) (kind : Int) (hlen : M.evs.length ≤ 1000000) :
    Calls Tryz.prog 68 #[.pointer (some ⟨M.m, 0, none⟩), .string (toB n), r.val, .int .i64 kind] w fun e w' => e = .returned (.tuple #[]) ∧ ∃ ev', MgIn w0 K L0 v X Y { M with runs := if r.state = 0 then del M.runs n else put M.runs n r, ev := ev', evs := M.evs ++ [(kind, n)] } w' := by
  obtain ⟨i0, hi, hz0, hz1, hz2⟩ := info_ev
  obtain ⟨a, c, hs⟩ := hr.shape h
  obtain ⟨st, pid, hv, tr, fs⟩ := r
  dsimp only at hs
  subst hs
  generalize hfl : fs.length = fl at *
  have hB1 : Below w.heap.size w (w.alloc (.cells #[.int .i64 st, .int .i64 pid, .slice a fl c, .int .i64 tr] 150)) := (Below.refl _ w).alloc (Nat.le_refl _) _
  have h1 := h.later hB1
  have h1d := h1.drew1
  have hc1 := (MapKept.heap_alloc w (.cells #[.int .i64 st, .int .i64 pid, .slice a fl c, .int .i64 tr] 150)).1
  have b0 := cell_at hc1 0
  have b1 := cell_at hc1 1
  have b2 := cell_at hc1 2
  have b3 := cell_at hc1 3
  -- what is appended, behind whichever turn of the map
  have HA := Lib.hid (fun (M2 : MS) (W : World) (hM : MgIn w0 K L0 v X Y M2 W) (hm : M2.m = M.m) (hev : M2.ev = M.ev) (hevs : M2.evs = M.evs) => (show W.cell? ⟨M.m, 3, none⟩ = some M.ev ∧ ∃ S N, Own ⟨w0, S⟩ (W.alloc (.cells #[.int .i64 kind, .string (toB n)] 92)) (⟨92, 2, M.ev, M.evs.length, evC M.evs⟩ :: N) ∧ ∀ w' ev', Own ⟨w0, S⟩ w' (⟨92, 2, ev', M.evs.length + 1, evC M.evs ++ [.int .i64 kind, .string (toB n)]⟩ :: N) → (w'.cell? ⟨M.m, 3, none⟩ = some M.ev ∧ w'.frozen? ⟨M.m, 3, none⟩ = false) ∧ MgIn w0 K L0 v X Y { M2 with ev := ev', evs := M.evs ++ [(kind, n)] } (w'.setCell ⟨M.m, 3, none⟩ ev') from by
    obtain ⟨m2, g2, rb2, ev2, evs2, rn2⟩ := M2
    dsimp only at hm hev hevs
    subst hm hev hevs
    obtain ⟨S, N, hO, back⟩ := hM.grow
    unfold rowEv at hO back
    refine ⟨hM.cells.1.2.2.2, S, N, hO.alloc _, fun w' ev' hO' => ?_⟩
    have h9 := back w' ev' (M.evs ++ [(kind, n)]) (by rw [List.length_append, evC_snoc]; exact hO')
    exact ⟨⟨h9.1.1, h9.1.2⟩, h9.2⟩))
  obtain ⟨o1, e1, k1⟩ := h1.delete n
  obtain ⟨o2, e2, k2⟩ := h1d.update n hr
  obtain ⟨⟨c0, c1, c2, c3⟩, hf⟩ := h1.cells
  obtain ⟨ea, ec2, hev⟩ := h.evForm
  have Hlen := Lib.hid hlen
  unfold RunD.val at e2 ⊢
  rw [hev] at c3
  dsimp only at e2 ⊢
  by_cases hst : st = 0
  · subst hst
    rw [if_pos rfl]
    obtain ⟨W1, hW1⟩ : ∃ W1, W1 = setBlock (w.alloc (.cells #[.int .i64 0, .int .i64 pid, .slice a fl c, .int .i64 tr] 150)) M.rb o1 := ⟨_, rfl⟩
    rw [← hW1] at e1 k1
    obtain ⟨a3, S, N, hO, hback⟩ := HA.out _ _ k1 rfl rfl rfl
    clear hW1
    generalize toB n = nb at *
    rw [hev] at a3 hO
    have Hsrc := Lib.hid (lit_src W1 [.int .i64 kind, .string nb] 92 (by intro u hu; simp only [List.mem_cons, List.not_mem_nil, or_false] at hu; rcases hu with rfl | rfl <;> rfl) W1.heap.size rfl)
    have Hb1 := Lib.hid (show M.evs.length + 1 ≤ maxLen from by have := Hlen.out; unfold maxLen; omega)
    have Hb2 := Lib.hid (show (M.evs.length + 1) * 24 ≤ 140737488355328 from by have := Hlen.out; omega)
    have HO := Lib.hid hO
    have HBK := Lib.hid hback
    clear h h1 h1d hr hlen hO hback hc1 hB1 HA k1 k2 c0 c1 hf hev e2
    generalize hnl : M.evs.length = nl at *
    generalize hec : evC M.evs = ec at *
    go_enter Tryz.func68, Tryz.ntmps68
    go_wp2_with (at_builtin; refine wpList_append_src rfl (.tmp 26) (.tmp 30) 88 rfl (.slice ea nl ec2) nl ec (.slice (some ⟨W1.heap.size, 0, none⟩) 1 1) 1 [.int .i64 kind, .string nb] rfl rfl HO.out i0 (.agg #[.int .i64 0, .string ⟨#[]⟩]) 24 Tryz.underlying88 hi hz0 hz1 hz2 rfl (by decide) Hsrc.out rfl Hb1.out Hb2.out ?_)
    intro ev' w' hO'
    obtain ⟨ea3, ec3, hev3, _, _⟩ := Own.sized (h := hO')
    subst hev3
    obtain ⟨⟨d3, g3⟩, hM'⟩ := HBK.out w' _ hO'
    have HP := Lib.hid hM'
    clear hO' hM' a3 e1
    go_wp2_with fail
    go_end0
    exact ⟨rfl, _, HP.out⟩
  · rw [if_neg hst]
    obtain ⟨W1, hW1⟩ : ∃ W1, W1 = setBlock (w.alloc (.cells #[.int .i64 st, .int .i64 pid, .slice a fl c, .int .i64 tr] 150)).drew M.rb o2 := ⟨_, rfl⟩
    rw [← hW1] at e2 k2
    obtain ⟨a3, S, N, hO, hback⟩ := HA.out _ _ k2 rfl rfl rfl
    clear hW1
    have hst2 : (st == 0) = false := by simpa using hst
    generalize toB n = nb at *
    rw [hev] at a3 hO
    have Hsrc := Lib.hid (lit_src W1 [.int .i64 kind, .string nb] 92 (by intro u hu; simp only [List.mem_cons, List.not_mem_nil, or_false] at hu; rcases hu with rfl | rfl <;> rfl) W1.heap.size rfl)
    have Hb1 := Lib.hid (show M.evs.length + 1 ≤ maxLen from by have := Hlen.out; unfold maxLen; omega)
    have Hb2 := Lib.hid (show (M.evs.length + 1) * 24 ≤ 140737488355328 from by have := Hlen.out; omega)
    have HO := Lib.hid hO
    have HBK := Lib.hid hback
    clear h h1 h1d hr hlen hO hback hc1 hB1 HA k1 k2 c0 c1 hf hev e1 hst
    generalize hnl : M.evs.length = nl at *
    generalize hec : evC M.evs = ec at *
    go_enter Tryz.func68, Tryz.ntmps68
    go_wp2_with fail
    go_region
    go_wp2_with (at_builtin; refine wpList_append_src rfl (.tmp 26) (.tmp 30) 88 rfl (.slice ea nl ec2) nl ec (.slice (some ⟨W1.heap.size, 0, none⟩) 1 1) 1 [.int .i64 kind, .string nb] rfl rfl HO.out i0 (.agg #[.int .i64 0, .string ⟨#[]⟩]) 24 Tryz.underlying88 hi hz0 hz1 hz2 rfl (by decide) Hsrc.out rfl Hb1.out Hb2.out ?_)
    intro ev' w' hO'
    obtain ⟨ea3, ec3, hev3, _, _⟩ := Own.sized (h := hO')
    subst hev3
    obtain ⟨⟨d3, g3⟩, hM'⟩ := HBK.out w' _ hO'
    have HP := Lib.hid hM'
    clear hO' hM' a3 e2
    go_wp2_with fail
    go_end0
    exact ⟨rfl, _, HP.out⟩
end
end Go.Proofs.YtnjabanjgckeoaaGreatDoor
end

/- allOn, Spawn beside a manager, issue. -/
section
namespace Go.Proofs.YtnjabanjgckeoaaGreatDoor
open Go.RowKit
open Go.ChangeMaps (setBlock)
set_option linter.unusedVariables false
set_option linter.unusedSimpArgs false
set_option maxRecDepth 100000

section
variable {w0 w w' : World} {K : Blocks} {L0 : List Rw} {v : Nat} {X : VX} {Y : Tab} {M : MS} {N : Nat}
set_option maxHeartbeats 1000000 in
theorem idle_in (h : MgIn w0 K L0 v X Y M w) {b : Nat} (hb : w.cell? ⟨b, 0, none⟩ = some (.pointer (some ⟨M.m, 0, none⟩))) (n : Nm) :
    Calls Tryz.prog 100 #[.string (toB n), .pointer (some ⟨b, 0, none⟩)] w fun e w' => e = .returned (.bool ((M.of n).state != 2)) ∧ Below w.heap.size w w' := by
  have hs := state_in h n
  clear h
  generalize toB n = nb at *
  go_enter Tryz.func100, Tryz.ntmps100
  go_wp2_with (go_at_call 39; refine hs.mono ?_; rintro e w' ⟨rfl, rfl⟩)
  go_ret
  exact ⟨rfl, Below.refl _ _⟩
set_option maxHeartbeats 1000000 in
theorem allOn_in (h : MgIn w0 K L0 v X Y M w) {lv : Value} {ls : List Nm} (hl : Sts w lv ls) :
    Calls Tryz.prog 66 #[.pointer (some ⟨M.m, 0, none⟩), lv] w fun e w' => e = .returned (.bool (onV (vw X Y M) ls)) ∧ Below w.heap.size w w' := by
  have hO := (Own.start w).made_at 54 1 #[.pointer (some ⟨M.m, 0, none⟩)] 1 w.heap.size rfl rfl (by unfold maxLen; decide)
  have hB := hO.below
  have h1 := h.later hB
  have c0 : (w.alloc (.cells #[.pointer (some ⟨M.m, 0, none⟩)] 54)).cell? ⟨w.heap.size, 0, none⟩ = some (.pointer (some ⟨M.m, 0, none⟩)) := hO.cell 0 (by decide)
  have hc := containsF_lb 100 #[.pointer (some ⟨w.heap.size, 0, none⟩)] (fun x => (M.of x).state != 2) (enters_of Tryz.func100 (by kernel_rfl) rfl) lv ls _ (hl.later hB) (fun W x _ hb => idle_in (h1.later hb) ((hb.cell (p := ⟨w.heap.size, 0, none⟩) (World.block_lt_of_cell? _ ⟨w.heap.size, 0, none⟩ c0)).trans c0) x)
  have e1 : onV (vw X Y M) ls = !(ls.any fun x => (M.of x).state != 2) := by
    unfold onV
    rw [List.not_any_eq_all_not]
    refine List.all_congr rfl fun x => ?_
    rw [of_vw]
    show ((M.of x).state == 2) = !(!((M.of x).state == 2))
    rw [Bool.not_not]
  rw [e1]
  have HB := Lib.hid hB
  obtain ⟨a, m, c, rfl⟩ := hl.shape
  clear h h1 hO hB c0 hl e1
  generalize (ls.any fun x => (M.of x).state != 2) = b at *
  go_enter Tryz.func66, Tryz.ntmps66
  go_wp2_with (go_at_call 94; refine hc.mono ?_; rintro e w' ⟨rfl, hb⟩)
  go_ret
  exact ⟨rfl, HB.out.trans (hb.mono HB.out.size)⟩
theorem vw_turn (X : VX) (Y : Tab) (M : MS) (n : Nm) (r : RunD) (kind : Int) (ev : Value) : vw X Y { M with runs := if r.state = 0 then del M.runs n else put M.runs n r, ev := ev, evs := M.evs ++ [(kind, n)] } = turnV (vw X Y M) n r.view kind := by
  unfold vw turnV
  have e : (if r.state = 0 then del M.runs n else put M.runs n r).map (fun p => (p.1, p.2.view)) = if r.view.state = 0 then del (M.runs.map fun p => (p.1, p.2.view)) n else put (M.runs.map fun p => (p.1, p.2.view)) n r.view := by
    show (if r.state = 0 then del M.runs n else put M.runs n r).map (fun p => (p.1, p.2.view)) = if r.state = 0 then _ else _
    split
    · exact delV_map RunD.view M.runs n
    · exact putV_map RunD.view M.runs n r
  dsimp only
  rw [e]
/-- Something is let run beside a manager. -/
def SpawnM (w0 : World) (K : Blocks) (L0 : List Rw) (v : Nat) (X : VX) (Y : Tab) (M : MS) (n : Nm) (fs : List Nm) (e : Ending) (w' : World) : Prop :=
  e = .returned (.tuple #[.int .i64 (if spawnC (vw X Y M) fs = 0 then Y.last + 1 else 0), .int .i64 (spawnC (vw X Y M) fs)]) ∧ ∃ X' Y', Y'.tb = Y.tb ∧ vw X' Y' M = spawnV (vw X Y M) (toB n) fs ∧ MgIn w0 K L0 v X' Y' M w'
theorem spawn_in (h : MgIn w0 K L0 v X Y M w) (hm : Mx w0) (g : Gd N (vw X Y M)) (hN : N ≤ 10000) (n : Nm) {hv : Value} {fs : List Nm} (hr : (⟨0, 0, hv, 0, fs⟩ : RunD).Ok L0) (hsz : ∀ f ∈ fs, f.length ≤ 1000000) :
    Calls Tryz.prog 10 #[.pointer (some ⟨Y.tb, 0, none⟩), .string (toB n), hv] w (SpawnM w0 K L0 v X Y M n fs) := by
  obtain ⟨a, c, hs⟩ := hr.shape h
  dsimp only at hs
  have hlen : Y.runs.length = (vw X Y M).runs.length := by show _ = (Y.runs.map _).length; rw [List.length_map]
  have fin : ∀ (X1 : VX) (Y1 : Tab) (code pid : Int), Y1.tb = Y.tb → (if spawnC (vw X Y M) fs = 0 then Y.last + 1 else 0) = pid → spawnC (vw X Y M) fs = code → vw X1 Y1 M = spawnV (vw X Y M) (toB n) fs → ((∀ K' : Blocks, VT w0 K' L0 v X Y w → Calls Tryz.prog 10 #[.pointer (some ⟨Y.tb, 0, none⟩), .string (toB n), hv] w fun e w' => e = .returned (.tuple #[.int .i64 pid, .int .i64 code]) ∧ VT w0 K' L0 v X1 Y1 w') → Calls Tryz.prog 10 #[.pointer (some ⟨Y.tb, 0, none⟩), .string (toB n), hv] w (SpawnM w0 K L0 v X Y M n fs)) := by
    intro X1 Y1 code pid ht hp hcd hvw hc
    refine (h.call (α := Unit) (P := fun _ e => e = .returned (.tuple #[.int .i64 pid, .int .i64 code])) (X' := fun _ => X1) (Y' := fun _ => Y1) (fun _ => ht) fun K' hV => (hc K' hV).mono fun e w' hh => ⟨(), hh⟩).mono fun e w' hh => ?_
    obtain ⟨_, h1, h2⟩ := hh
    exact ⟨by rw [hp, hcd]; exact h1, X1, Y1, ht, hvw, h2⟩
  by_cases h8 : 8 < fs.length
  · have e1 : spawnC (vw X Y M) fs = 22 := by unfold spawnC; rw [if_pos h8]
    have e2 : spawnV (vw X Y M) (toB n) fs = vw X Y M := by unfold spawnV; rw [if_pos h8]
    refine fin X Y 22 0 rfl (by rw [e1]; rfl) e1 e2.symm fun K' hV => ?_
    rw [hs]
    exact spawn_many hV (toB n) a _ c h8
  by_cases h32 : 32 ≤ (vw X Y M).runs.length
  · have e1 : spawnC (vw X Y M) fs = 7 := by unfold spawnC; rw [if_neg h8, if_pos h32]
    have e2 : spawnV (vw X Y M) (toB n) fs = vw X Y M := by unfold spawnV; rw [if_neg h8, if_pos h32]
    refine fin X Y 7 0 rfl (by rw [e1]; rfl) e1 e2.symm fun K' hV => ?_
    rw [hs]
    exact spawn_full hV (toB n) a _ c (by omega) (by omega)
  have hlk : LikeX X (vw X Y M).x := ⟨rfl, rfl⟩
  obtain ⟨q1, q2, q3⟩ := hlk.holds fs []
  have hmap : (fs.map toB).map (fun p => p.data.toList) = fs := by
    rw [List.map_map]
    exact List.map_id _
  have hpl : (fs.map toB).length = fs.length := List.length_map ..
  have hps : ∀ K' : Blocks, ∀ w' X', VT w0 K' L0 v X' Y w' → ∀ i (hi : i < (fs.map toB).length), ∃ g o, a = some ⟨g, o, none⟩ ∧ w'.cell? ⟨g, o + i, none⟩ = some (.string (fs.map toB)[i]) := fun K' w' X' k i hi => by
    rw [hpl] at hi
    rcases hr with ⟨_, h2⟩ | hr
    · dsimp only at h2
      rw [h2] at hi; exact absurd hi (Nat.not_lt_zero _)
    · obtain ⟨a', c', e1, _, _, h4⟩ := k.vtx.sts hr
      dsimp only at e1
      rw [hs] at e1
      injection e1 with e1 _ _
      subst e1
      obtain ⟨b, o, rfl, _, hc⟩ := h4 (show 0 < fs.length by omega)
      exact ⟨b, o, rfl, by rw [hc i hi, List.getElem_map]⟩
  have hszb : ∀ p ∈ fs.map toB, p.size ≤ maxLen := fun p hp => by
    obtain ⟨x, hx, rfl⟩ := List.mem_map.1 hp
    rw [toB_size]
    have := hsz x hx
    unfold maxLen; omega
  have hH : HeldOk (8 * N) X := g.held.like ⟨rfl, rfl⟩
  by_cases h0 : (holdFrom (X, []) fs).1 = 0
  · have e1 : spawnC (vw X Y M) fs = 0 := by unfold spawnC; rw [if_neg h8, if_neg h32, ← q1]; exact h0
    have e2 : spawnV (vw X Y M) (toB n) fs = { (vw X Y M) with E := (holdFrom (X, []) fs).2.2.E, held := (holdFrom (X, []) fs).2.2.held, last := Y.last + 1, runs := put (vw X Y M).runs (Y.last + 1) (toB n, (holdFrom (X, []) fs).2.1, false) } := by
      unfold spawnV
      rw [if_neg h8, if_neg h32, ← q1, if_pos h0, ← q3.1, ← q3.2, ← q2]
      rfl
    have hfr : look Y.runs (Y.last + 1) = none := by
      have := g.free
      rw [runs_vw] at this
      cases hq : look Y.runs (Y.last + 1) with
      | none => rfl
      | some p =>
        rw [show (vw X Y M).last = Y.last from rfl, hq] at this
        cases this
    have hlast : 0 ≤ Y.last ∧ Y.last ≤ (N : Int) := g.last
    refine (h.call (α := Nat × Value) (P := fun _ e => e = .returned (.tuple #[.int .i64 (Y.last + 1), .int .i64 0])) (X' := fun _ => (holdFrom (X, []) fs).2.2) (Y' := fun q => { Y with last := Y.last + 1, runs := put Y.runs (Y.last + 1) ⟨q.1, toB n, q.2, (holdFrom (X, []) fs).2.1, false⟩ }) (fun _ => rfl) fun K' hV => ?_).mono fun e w' hh => ?_
    · have := spawn_yes hV hm hH (toB n) a (fs.map toB) c (by rw [hpl]; omega) hszb (hps K') (by rw [hpl]; omega) (by omega) (ids := (holdFrom (X, []) fs).2.1) (X1 := (holdFrom (X, []) fs).2.2) (by rw [hmap, ← h0]) (by omega) hfr
      rw [hpl, ← hs] at this
      exact this.mono fun e w' hh => by
        obtain ⟨k1, b, fv, k2⟩ := hh
        exact ⟨(b, fv), k1, k2⟩
    · obtain ⟨q, k1, k2⟩ := hh
      refine ⟨by rw [e1, if_pos rfl]; exact k1, _, { Y with last := Y.last + 1, runs := put Y.runs (Y.last + 1) ⟨q.1, toB n, q.2, (holdFrom (X, []) fs).2.1, false⟩ }, rfl, ?_, k2⟩
      rw [e2]
      unfold vw
      dsimp only
      rw [putV_map vwP]
      rfl
  · have e1 : spawnC (vw X Y M) fs = (holdFrom (X, []) fs).1 := by unfold spawnC; rw [if_neg h8, if_neg h32, ← q1]
    have e2 : spawnV (vw X Y M) (toB n) fs = vw (holdFrom (X, []) fs).2.2 Y M := by
      unfold spawnV
      rw [if_neg h8, if_neg h32, ← q1, if_neg h0, ← q3.1, ← q3.2]
      rfl
    refine fin (holdFrom (X, []) fs).2.2 Y (holdFrom (X, []) fs).1 0 rfl (by rw [e1, if_neg h0]) e1 e2.symm fun K' hV => ?_
    have := spawn_no hV hm hH (toB n) a (fs.map toB) c (by rw [hpl]; omega) hszb (hps K') (by rw [hpl]; omega) (by omega) (e0 := (holdFrom (X, []) fs).1) (ids := (holdFrom (X, []) fs).2.1) (X1 := (holdFrom (X, []) fs).2.2) (by rw [hmap]) h0
    rw [hpl, ← hs] at this
    exact this
end
end Go.Proofs.YtnjabanjgckeoaaGreatDoor
end

/- issue, Start. -/
section
namespace Go.Proofs.YtnjabanjgckeoaaGreatDoor
open Go.RowKit
open Go.ChangeMaps (setBlock)
set_option linter.unusedVariables false
set_option linter.unusedSimpArgs false
set_option maxRecDepth 100000

/-- Behind a call of a manager. -/
def MgTo (w0 : World) (K : Blocks) (L0 : List Rw) (v : Nat) (Y : Tab) (M : MS) (V' : MV) (w' : World) : Prop :=
  ∃ K' L1 X' Y' M', MgIn w0 K' L1 v X' Y' M' w' ∧ vw X' Y' M' = V' ∧ M'.m = M.m ∧ Y'.tb = Y.tb ∧ M'.g = M.g ∧ (∀ m ∈ K, m ∈ K') ∧ (∀ r ∈ L0, r ∈ L1)
section
variable {w0 w w' : World} {K K1 : Blocks} {L0 L1 : List Rw} {v : Nat} {X : VX} {Y : Tab} {M : MS} {N : Nat}
theorem MgIn.to (h : MgIn w0 K L0 v X Y M w) : MgTo w0 K L0 v Y M (vw X Y M) w := ⟨K, L0, X, Y, M, h, rfl, rfl, rfl, rfl, fun _ h => h, fun _ h => h⟩
theorem MgTo.less {V : MV} (h : MgTo w0 K1 L1 v Y M V w) (hK : ∀ m ∈ K, m ∈ K1) (hL : ∀ r ∈ L0, r ∈ L1) : MgTo w0 K L0 v Y M V w := by
  obtain ⟨K', L2, X', Y', M', h1, h2, h3, h4, h5, h6, h7⟩ := h
  exact ⟨K', L2, X', Y', M', h1, h2, h3, h4, h5, fun m hm => h6 m (hK m hm), fun r hr => h7 r (hL r hr)⟩
theorem MgTo.at {V : MV} (h : MgTo w0 K L0 v Y M V w) {us : List GU} {ord : List Nm} (hg : GK w0 K L0 M.g us ord) (hG : Gd N V) : MgAt w0 v M.m Y.tb M.g us ord N V w := by
  obtain ⟨K', L2, X', Y', M', h1, h2, h3, h4, h5, h6, h7⟩ := h
  exact ⟨K', L2, X', Y', M', h1, h2, h3, h4, h5, hg.mono h6 h7, hG⟩
theorem evs_le (g : Gd N (vw X Y M)) (hN : N ≤ 10000) : M.evs.length ≤ 1000000 := by
  have := g.evs
  have e : (vw X Y M).evs = M.evs := rfl
  rw [e] at this
  omega
set_option maxHeartbeats 4000000 in
theorem issue_in (h : MgIn w0 K L0 v X Y M w) (hm : Mx w0) (g : Gd N (vw X Y M)) (hN : N ≤ 10000) (n : Nm) {hv : Value} {fs : List Nm} (hr : (⟨0, 0, hv, 0, fs⟩ : RunD).Ok L0) (hsz : ∀ f ∈ fs, f.length ≤ 1000000) (tries : Int) :
    Calls Tryz.prog 67 #[.pointer (some ⟨M.m, 0, none⟩), .string (toB n), hv, .int .i64 tries] w fun e w' => e = .returned (.int .i64 (issueV (vw X Y M) n fs tries).1) ∧ MgTo w0 K L0 v Y M (issueV (vw X Y M) n fs tries).2 w' := by
  have hsp := spawn_in h hm g hN n hr hsz
  obtain ⟨a, c, hs⟩ := hr.shape h
  dsimp only at hs
  obtain ⟨⟨c0, c1, c2, c3⟩, hf⟩ := h.cells
  have HE := Lib.hid (evs_le g hN)
  by_cases hcd : spawnC (vw X Y M) fs = 0
  · have hi : issueV (vw X Y M) n fs tries = (0, turnV (spawnV (vw X Y M) (toB n) fs) n ⟨1, Y.last + 1, tries, fs⟩ 0) := by
      unfold issueV
      rw [if_pos hcd]; rfl
    rw [hi]
    have HR := Lib.hid hr
    have HT := Lib.hid (fun (X1 : VX) (Y1 : Tab) (W : World) (h1 : MgIn w0 K L0 v X1 Y1 M W) => turn_in h1 n (r := ⟨1, Y.last + 1, hv, tries, fs⟩) HR.out 0 HE.out)
    have HV := Lib.hid (fun (X1 : VX) (Y1 : Tab) (ev : Value) => vw_turn X1 Y1 M n ⟨1, Y.last + 1, hv, tries, fs⟩ 0 ev)
    unfold SpawnM at hsp
    rw [hcd, if_pos rfl] at hsp
    unfold RunD.val at HT
    dsimp only at HT HV
    rw [hs] at hsp HT HV ⊢
    clear h c1 c2 c3 hf hr hs hcd hi HR g
    generalize hfl : fs.length = fl at *
    generalize Y.last = last at *
    go_enter Tryz.func67, Tryz.ntmps67
    go_wp2_with fail
    refine hsp.mono ?_
    rintro e w1 ⟨rfl, X1, Y1, ht1, hv1, h1⟩
    have ht := HT.out X1 Y1 w1 h1
    have H1 := Lib.hid (And.intro ht1 hv1)
    clear hsp h1 ht1 hv1 HT c0
    go_wp2_with fail
    refine ht.mono ?_
    rintro e w2 ⟨rfl, ev, h2⟩
    have H2 := Lib.hid h2
    clear ht h2
    go_wp2_with fail
    go_ret
    refine ⟨rfl, K, L0, X1, Y1, _, H2.out, ?_, rfl, H1.out.1, rfl, fun _ h => h, fun _ h => h⟩
    rw [← H1.out.2]
    exact HV.out X1 Y1 ev
  · have hi : issueV (vw X Y M) n fs tries = (spawnC (vw X Y M) fs, turnV (spawnV (vw X Y M) (toB n) fs) n ⟨4, 0, 0, []⟩ 4) := by
      unfold issueV
      rw [if_neg hcd]
    rw [hi]
    have HT := Lib.hid (fun (X1 : VX) (Y1 : Tab) (W : World) (h1 : MgIn w0 K L0 v X1 Y1 M W) => (turn_in h1 n (r := ⟨4, 0, .slice none 0 0, 0, []⟩) (.inl ⟨rfl, rfl⟩) 4 HE.out))
    have HV := Lib.hid (fun (X1 : VX) (Y1 : Tab) (ev : Value) => vw_turn X1 Y1 M n ⟨4, 0, .slice none 0 0, 0, []⟩ 4 ev)
    unfold SpawnM at hsp
    rw [if_neg hcd] at hsp
    unfold RunD.val at HT
    dsimp only at HT HV
    rw [hs] at hsp ⊢
    have hne : (spawnC (vw X Y M) fs != 0) = true := by simp [hcd]
    clear h c1 c2 c3 hf hr hs hcd hi g
    generalize hfl : fs.length = fl at *
    generalize hsc : spawnC (vw X Y M) fs = code at *
    generalize Y.last = last at *
    go_enter Tryz.func67, Tryz.ntmps67
    go_wp2_with fail
    refine hsp.mono ?_
    rintro e w1 ⟨rfl, X1, Y1, ht1, hv1, h1⟩
    have ht := HT.out X1 Y1 w1 h1
    have H1 := Lib.hid (And.intro ht1 hv1)
    clear hsp h1 ht1 hv1 HT c0
    go_wp2_with fail
    refine ht.mono ?_
    rintro e w2 ⟨rfl, ev, h2⟩
    have H2 := Lib.hid h2
    clear ht h2
    go_wp2_with fail
    go_ret
    refine ⟨rfl, K, L0, X1, Y1, _, H2.out, ?_, rfl, H1.out.1, rfl, fun _ h => h, fun _ h => h⟩
    rw [← H1.out.2]
    exact HV.out X1 Y1 ev
end
end Go.Proofs.YtnjabanjgckeoaaGreatDoor
end

/- Units that a law hands in; the document's example, plain. -/
section
namespace Go.Proofs.YtnjabanjgckeoaaGreatDoor
open Go.RowKit
open Go.ChangeMaps (setBlock)
set_option linter.unusedVariables false
set_option linter.unusedSimpArgs false
set_option maxRecDepth 100000

def flatU (xs : List UV) : List Value := (xs.map UV.cells).flatten
theorem flatU_at : ∀ (xs : List UV) (i : Nat) (h : i < xs.length), ((flatU xs).drop (i * 8)).take 8 = xs[i].cells := by
  intro xs
  induction xs with
  | nil => intro i h; exact absurd h (Nat.not_lt_zero _)
  | cons x r ih =>
    intro i h
    cases i with
    | zero =>
      show ((flatU (x :: r)).drop 0).take 8 = x.cells
      unfold flatU
      rw [List.drop_zero, List.map_cons, List.flatten_cons]
      exact List.take_left' rfl
    | succ i =>
      have := ih i (by simpa using h)
      have hi : i < r.length := by simpa using h
      show ((flatU (x :: r)).drop ((i + 1) * 8)).take 8 = r[i].cells
      rw [← this]
      unfold flatU
      rw [List.map_cons, List.flatten_cons, show (i + 1) * 8 = i * 8 + 8 from by omega, List.drop_append, List.drop_eq_nil_of_le (by show 8 ≤ _; omega), List.nil_append]
      rfl
theorem uarg_of {W0 : Base} {w : World} {L : List Rw} {xs : List UV} {us : List GU} {v : Value} (h : Own W0 w (⟨64, 8, v, us.length, flatU xs⟩ :: L)) (hu : Units w xs us) (hz : ∀ x ∈ xs, x.nilOk) : UArg w v us := by
  obtain ⟨a, c, rfl, _, _⟩ := h.sized
  refine ⟨a, c, xs, rfl, hu, fun i hi => ?_⟩
  have hpos : 0 < us.length := by rw [← hu.len]; omega
  obtain ⟨g, cap, e, _⟩ := h.form hpos
  injection e with e1 _ e3
  subst e1 e3
  refine ⟨⟨g, 0, rfl, ?_⟩, hz _ (List.getElem_mem hi)⟩
  have := h.range (i * 8) 8
  rw [flatU_at xs i hi] at this
  simpa using this
theorem sts_one {W0 : Base} {w : World} {L : List Rw} {g : Nat} {n : Nm} (h : Own W0 w L) (hm : (⟨9, 1, .slice (some ⟨g, 0, none⟩) 1 1, 1, [.string (toB n)]⟩ : Rw) ∈ L) : Sts w (.slice (some ⟨g, 0, none⟩) 1 1) [n] := h.stsMem hm

/-! ### The example -/
def gA : GU := ⟨[97], [], [], [], [[98]], [], [], 0⟩
def gB : GU := ⟨[98], [], [], [], [], [], [], 0⟩
def gC : GU := ⟨[99], [], [], [[98]], [], [], [[97]], 0⟩
def usA : List GU := [gA, gB, gC]
def hA : GU := ⟨[97], [], [[98]], [], [], [], [], 0⟩
def hB : GU := ⟨[98], [], [[97]], [], [], [], [], 0⟩
def usB : List GU := [hA, hB]
theorem errB : errU usB = 19 := by decide
theorem headB : (placeU usB).2.head? = some [97] := by decide
end Go.Proofs.YtnjabanjgckeoaaGreatDoor
end

/- The document's example of graph comes out true. -/
section
namespace Go.Proofs.YtnjabanjgckeoaaGreatDoor
open Go.RowKit
open Go.ChangeMaps (setBlock)
set_option linter.unusedVariables false
set_option linter.unusedSimpArgs false
set_option maxRecDepth 100000

theorem new_ok {w : World} {v : Value} {us : List GU} (h : UArg w v us) (hlen : us.length ≤ 1000000) (hs : ∀ n ∈ namesU us, n.length ≤ 1000000) (hb : ∀ u ∈ us, Bnd u) (hE : errU us = 0) :
    Calls Tryz.prog 19 #[v] w fun e w' => ∃ g nb, e = .returned (.tuple #[.pointer (some ⟨g, 0, none⟩), .int .i64 0, .string nb]) ∧ GAt w' g us (ordU us) ∧ Below w.heap.size w w' :=
  (new_any h hlen hs hb).mono fun e w' hp => by
    obtain ⟨gv, n, rfl, hbl, _, hg, _⟩ := hp
    obtain ⟨g, rfl, hG⟩ := hg hE
    exact ⟨g, toB n, by rw [hE], hG, hbl⟩
theorem new_cycle {w : World} {v : Value} {us : List GU} (h : UArg w v us) (hlen : us.length ≤ 1000000) (hs : ∀ n ∈ namesU us, n.length ≤ 1000000) (hb : ∀ u ∈ us, Bnd u) (hE : errU us = 19) {n : Nm} (hn : (placeU us).2.head? = some n) :
    Calls Tryz.prog 19 #[v] w fun e w' => e = .returned (.tuple #[.pointer none, .int .i64 19, .string (toB n)]) ∧ Below w.heap.size w w' :=
  (new_any h hlen hs hb).mono fun e w' hp => by
    obtain ⟨gv, n', rfl, hbl, hbad, _, h19⟩ := hp
    have h1 := h19 hE
    rw [hn] at h1
    injection h1 with h1
    subst h1
    rw [hbad (by rw [hE]; decide), hE]
    exact ⟨rfl, hbl⟩
theorem bnd_small {u : GU} (h : u.fi.length ≤ 100 ∧ u.af.length ≤ 100 ∧ u.be.length ≤ 100 ∧ u.re.length ≤ 100 ∧ u.wa.length ≤ 100 ∧ u.pa.length ≤ 100) : Bnd u := ⟨by omega, by omega, by omega, by omega, by omega, by omega⟩
theorem argB (w : World) : UArg (((w.alloc (.cells #[.string ⟨#[98]⟩] 9)).alloc (.cells #[.string ⟨#[97]⟩] 9)).alloc (.cells #[.string ⟨#[97]⟩, .slice none 0 0, .slice (some ⟨w.heap.size, 0, none⟩) 1 1, .slice none 0 0, .slice none 0 0, .slice none 0 0, .slice none 0 0, .int .i64 0, .string ⟨#[98]⟩, .slice none 0 0, .slice (some ⟨w.heap.size + 1, 0, none⟩) 1 1, .slice none 0 0, .slice none 0 0, .slice none 0 0, .slice none 0 0, .int .i64 0] 64)) (.slice (some ⟨w.heap.size + 1 + 1, 0, none⟩) 2 2) usB ∧ Below w.heap.size w (((w.alloc (.cells #[.string ⟨#[98]⟩] 9)).alloc (.cells #[.string ⟨#[97]⟩] 9)).alloc (.cells #[.string ⟨#[97]⟩, .slice none 0 0, .slice (some ⟨w.heap.size, 0, none⟩) 1 1, .slice none 0 0, .slice none 0 0, .slice none 0 0, .slice none 0 0, .int .i64 0, .string ⟨#[98]⟩, .slice none 0 0, .slice (some ⟨w.heap.size + 1, 0, none⟩) 1 1, .slice none 0 0, .slice none 0 0, .slice none 0 0, .slice none 0 0, .int .i64 0] 64)) := by
  have O1 := (Own.start w).made_at 9 1 #[.string ⟨#[98]⟩] 1 w.heap.size rfl rfl (by unfold maxLen; decide)
  have O2 := O1.made_at 9 1 #[.string ⟨#[97]⟩] 1 (w.heap.size + 1) (by simp) rfl (by unfold maxLen; decide)
  have O4 := O2.made_at 64 8 #[.string ⟨#[97]⟩, .slice none 0 0, .slice (some ⟨w.heap.size, 0, none⟩) 1 1, .slice none 0 0, .slice none 0 0, .slice none 0 0, .slice none 0 0, .int .i64 0, .string ⟨#[98]⟩, .slice none 0 0, .slice (some ⟨w.heap.size + 1, 0, none⟩) 1 1, .slice none 0 0, .slice none 0 0, .slice none 0 0, .slice none 0 0, .int .i64 0] 2 (w.heap.size + 1 + 1) (by simp) rfl (by unfold maxLen; decide)
  refine ⟨uarg_of (xs := [⟨[97], .slice none 0 0, .slice (some ⟨w.heap.size, 0, none⟩) 1 1, .slice none 0 0, .slice none 0 0, .slice none 0 0, .slice none 0 0, 0⟩, ⟨[98], .slice none 0 0, .slice (some ⟨w.heap.size + 1, 0, none⟩) 1 1, .slice none 0 0, .slice none 0 0, .slice none 0 0, .slice none 0 0, 0⟩]) O4 ?_ (fun x hx => by
    simp only [List.mem_cons, List.not_mem_nil, or_false] at hx
    rcases hx with rfl | rfl <;> (intro v hv; simp only [List.mem_cons, List.not_mem_nil, or_false] at hv; rcases hv with rfl | rfl | rfl | rfl | rfl | rfl <;> first | exact .inl rfl | exact .inr ⟨_, _, _, rfl⟩)), O4.below⟩
  have n0 := sts_nil (((w.alloc (.cells #[.string ⟨#[98]⟩] 9)).alloc (.cells #[.string ⟨#[97]⟩] 9)).alloc (.cells #[.string ⟨#[97]⟩, .slice none 0 0, .slice (some ⟨w.heap.size, 0, none⟩) 1 1, .slice none 0 0, .slice none 0 0, .slice none 0 0, .slice none 0 0, .int .i64 0, .string ⟨#[98]⟩, .slice none 0 0, .slice (some ⟨w.heap.size + 1, 0, none⟩) 1 1, .slice none 0 0, .slice none 0 0, .slice none 0 0, .slice none 0 0, .int .i64 0] 64))
  have s1 : Sts (((w.alloc (.cells #[.string ⟨#[98]⟩] 9)).alloc (.cells #[.string ⟨#[97]⟩] 9)).alloc (.cells #[.string ⟨#[97]⟩, .slice none 0 0, .slice (some ⟨w.heap.size, 0, none⟩) 1 1, .slice none 0 0, .slice none 0 0, .slice none 0 0, .slice none 0 0, .int .i64 0, .string ⟨#[98]⟩, .slice none 0 0, .slice (some ⟨w.heap.size + 1, 0, none⟩) 1 1, .slice none 0 0, .slice none 0 0, .slice none 0 0, .slice none 0 0, .int .i64 0] 64)) (.slice (some ⟨w.heap.size, 0, none⟩) 1 1) [[98]] := sts_one O4 (List.mem_cons_of_mem _ (List.mem_cons_of_mem _ (List.mem_cons_self ..)))
  have s2 : Sts (((w.alloc (.cells #[.string ⟨#[98]⟩] 9)).alloc (.cells #[.string ⟨#[97]⟩] 9)).alloc (.cells #[.string ⟨#[97]⟩, .slice none 0 0, .slice (some ⟨w.heap.size, 0, none⟩) 1 1, .slice none 0 0, .slice none 0 0, .slice none 0 0, .slice none 0 0, .int .i64 0, .string ⟨#[98]⟩, .slice none 0 0, .slice (some ⟨w.heap.size + 1, 0, none⟩) 1 1, .slice none 0 0, .slice none 0 0, .slice none 0 0, .slice none 0 0, .int .i64 0] 64)) (.slice (some ⟨w.heap.size + 1, 0, none⟩) 1 1) [[97]] := sts_one O4 (List.mem_cons_of_mem _ (List.mem_cons_self ..))
  exact .cons ⟨rfl, rfl, n0, s1, n0, n0, n0, n0⟩ (.cons ⟨rfl, rfl, n0, s2, n0, n0, n0, n0⟩ .nil)
theorem newB (w : World) : Calls Tryz.prog 19 #[.slice (some ⟨w.heap.size + 1 + 1, 0, none⟩) 2 2] (((w.alloc (.cells #[.string ⟨#[98]⟩] 9)).alloc (.cells #[.string ⟨#[97]⟩] 9)).alloc (.cells #[.string ⟨#[97]⟩, .slice none 0 0, .slice (some ⟨w.heap.size, 0, none⟩) 1 1, .slice none 0 0, .slice none 0 0, .slice none 0 0, .slice none 0 0, .int .i64 0, .string ⟨#[98]⟩, .slice none 0 0, .slice (some ⟨w.heap.size + 1, 0, none⟩) 1 1, .slice none 0 0, .slice none 0 0, .slice none 0 0, .slice none 0 0, .int .i64 0] 64)) fun e w' => e = .returned (.tuple #[.pointer none, .int .i64 19, .string ⟨#[97]⟩]) ∧ Below w.heap.size w w' := by
  obtain ⟨h1, h2⟩ := argB w
  refine (new_cycle h1 (by decide) (by decide) (fun u hu => bnd_small (by
    simp only [usB, List.mem_cons, List.not_mem_nil, or_false] at hu
    rcases hu with rfl | rfl <;> decide)) errB headB).mono ?_
  rintro e w' ⟨rfl, hb⟩
  exact ⟨rfl, h2.trans (hb.mono h2.size)⟩
end Go.Proofs.YtnjabanjgckeoaaGreatDoor
end

/- A new manager; law 16's volume and manager. -/
section
namespace Go.Proofs.YtnjabanjgckeoaaGreatDoor
open Go.RowKit
open Go.ChangeMaps (setBlock)
set_option linter.unusedVariables false
set_option linter.unusedSimpArgs false
set_option maxRecDepth 100000

/-- A manager beside a graph that isn't its own yet. -/
def MgPre (w0 : World) (v mb tb g : Nat) (us : List GU) (ord : List Nm) (N : Nat) (V : MV) (w : World) : Prop :=
  ∃ K L0 X Y M, MgIn w0 K L0 v X Y M w ∧ vw X Y M = V ∧ M.m = mb ∧ Y.tb = tb ∧ GK w0 K L0 g us ord ∧ Gd N V
section
variable {w0 w w1 w' : World} {K : Blocks} {L0 : List Rw} {v mb tb gb g N : Nat} {us us' : List GU} {ord ord' : List Nm} {V : MV} {X : VX} {Y : Tab}
theorem MgAt.graft {S : Blocks} {L : List Rw} (h : MgAt w0 v mb tb gb us ord N V w) (k : Own ⟨w, S⟩ w1 L) (hg : GIn S L g us' ord') : MgPre w0 v mb tb g us' ord' N V w1 := by
  obtain ⟨K, L0, X, Y, M, h1, h2, h3, h4, h5, h6, h7⟩ := h
  exact ⟨S ++ K, L ++ L0, X, Y, M, h1.join k, h2, h3, h4, hg.gk.mono (fun m hm => List.mem_append_left _ hm) (fun r hr => List.mem_append_left _ hr), h7⟩
theorem MgAt.pre (h : MgAt w0 v mb tb gb us ord N V w) (hg : GAt w0 g us' ord') : MgPre w0 v mb tb g us' ord' N V w := by
  obtain ⟨K, L0, X, Y, M, h1, h2, h3, h4, h5, h6, h7⟩ := h
  exact ⟨K, L0, X, Y, M, h1, h2, h3, h4, hg.gk.mono (fun m hm => nomatch hm) (fun r hr => nomatch hr), h7⟩
theorem set_at16 (h : MgPre w0 v mb tb g us ord N V w) : Calls Tryz.prog 21 #[.pointer (some ⟨mb, 0, none⟩), .pointer (some ⟨g, 0, none⟩)] w fun e w' => e = .returned (.tuple #[]) ∧ MgAt w0 v mb tb g us ord N V w' := by
  obtain ⟨K, L0, X, Y, M, h1, rfl, rfl, rfl, h6, h7⟩ := h
  obtain ⟨⟨c0, c1, c2, c3⟩, hf⟩ := h1.cells
  have f1 := hf 1
  have HP := Lib.hid (show MgAt w0 v M.m Y.tb g us ord N (vw X Y M) (w.setCell ⟨M.m, 1, none⟩ (.pointer (some ⟨g, 0, none⟩))) from ⟨K, L0, X, Y, _, h1.setG g, rfl, rfl, rfl, rfl, h6, h7⟩)
  clear h1 h6 h7 c0 c2 c3 hf
  go_enter Tryz.func21, Tryz.ntmps21
  go_wp2_with fail
  go_end0
  exact ⟨rfl, HP.out⟩
theorem graph_at (h : MgAt w0 v mb tb gb us ord N V w) : Calls Tryz.prog 45 #[.pointer (some ⟨mb, 0, none⟩)] w fun e w' => e = .returned (.pointer (some ⟨gb, 0, none⟩)) ∧ w = w' := by
  obtain ⟨K, L0, X, Y, M, h1, rfl, rfl, rfl, rfl, h6, h7⟩ := h
  obtain ⟨⟨c0, c1, c2, c3⟩, hf⟩ := h1.cells
  clear h1 h6 h7 c0 c2 c3 hf
  go_enter Tryz.func45, Tryz.ntmps45
  go_wp2_with fail
  go_ret
  exact ⟨rfl, rfl⟩
theorem arg_none (w : World) : UArg w (.slice none 0 0) [] := ⟨none, 0, [], rfl, .nil, fun i hi => absurd hi (Nat.not_lt_zero _)⟩
def V0 (X : VX) (Y : Tab) : MV := ⟨X.E, X.held, Y.last, Y.runs.map fun p => (p.1, vwP p.2), [], []⟩
set_option maxHeartbeats 2000000 in
theorem mnew_any (h : VT w0 K L0 v X Y w) (hG : Gd N (V0 X Y)) : Calls Tryz.prog 60 #[.pointer (some ⟨Y.tb, 0, none⟩)] w fun e w' => ∃ mb g, e = .returned (.pointer (some ⟨mb, 0, none⟩)) ∧ MgAt w0 v mb Y.tb g [] [] N (V0 X Y) w' ∧ w'.cell? ⟨mb, 0, none⟩ = some (.pointer (some ⟨Y.tb, 0, none⟩)) := by
  have hnew := new_any2 (arg_none w) (Nat.zero_le _) (fun n hn => nomatch hn) (fun u hu => nomatch hu)
  have HV := Lib.hid h.vtx
  have HG := Lib.hid hG
  generalize htb : Y.tb = tb at *
  have Htb := Lib.hid htb
  clear h hG htb
  go_enter Tryz.func60, Tryz.ntmps60
  go_wp2_with fail
  refine hnew.mono ?_
  rintro e w1 ⟨gv, nm, rfl, _, _, hgood, _⟩
  obtain ⟨g, S, L, rfl, hO, hgi⟩ := hgood (by decide)
  have he : errU [] = 0 := by decide
  rw [he]
  have hV1 := HV.out.join hO
  have hV2 := hV1.newK (.map #[] 0)
  have hV3 := (hV2.newK (.cells (mgCells tb ⟨w1.heap.size + 1, g, w1.heap.size, .slice none 0 0, [], []⟩) 90)).nilrow 92 2
  have hs1 : (w1.alloc (.map #[] 0)).heap.size = w1.heap.size + 1 := by simp
  rw [hs1] at hV3
  obtain ⟨LL, hOK, _⟩ := hV1.ownK
  have hin : MgIn w0 (S ++ K) (L ++ L0) v X Y ⟨w1.heap.size + 1, g, w1.heap.size, .slice none 0 0, [], []⟩ ((w1.alloc (.map #[] 0)).alloc (.cells (mgCells tb ⟨w1.heap.size + 1, g, w1.heap.size, .slice none 0 0, [], []⟩) 90)) := by
    refine ⟨⟨.map #[] 0, by rw [Htb.out]; exact hV3, MapO.empty _⟩, by show w1.heap.size + 1 ≠ w1.heap.size; omega, fun b x hb => ?_, fun p hp => nomatch hp⟩
    have := (hOK.atLt hb).2
    exact ⟨by show b ≠ w1.heap.size + 1; omega, by show b ≠ w1.heap.size; omega⟩
  have HC := Lib.hid (cell_at hin.block 0)
  have HP := Lib.hid (show MgAt w0 v (w1.heap.size + 1) tb g [] [] N (V0 X Y) ((w1.alloc (.map #[] 0)).alloc (.cells (mgCells tb ⟨w1.heap.size + 1, g, w1.heap.size, .slice none 0 0, [], []⟩) 90)) from ⟨_, _, X, Y, _, hin, rfl, rfl, Htb.out, rfl, hgi.gk.mono (fun m hm => List.mem_append_left _ hm) (fun r hr => List.mem_append_left _ hr), HG.out⟩)
  rw [Htb.out] at HC
  have hmk : ∀ w : World, (Instr.makeMap 87 none).run Tryz.prog w = .ok (.map (some w.heap.size)) (w.alloc (.map #[] 0)) := fun w => rfl
  clear hnew hgood hO hgi he hV1 hV2 hV3 hs1 hOK hin
  unfold mgCells at HP HC
  dsimp only at HP HC
  go_wp2_with fail
  go_ret
  refine ⟨_, _, ?_, HP.out, HC.out⟩
  simp
end
end Go.Proofs.YtnjabanjgckeoaaGreatDoor
end

/- Law 16's open: a volume with a directory and five files, and a manager over it. -/
section
namespace Go.Proofs.YtnjabanjgckeoaaGreatDoor
open Go.RowKit
open Go.ChangeMaps (setBlock)
set_option linter.unusedVariables false
set_option linter.unusedSimpArgs false
set_option maxRecDepth 100000

def VM : MV := ⟨EM, [], 0, [], [], []⟩
theorem gd_VM : Gd 0 VM := ⟨⟨List.nodup_nil, fun i => ⟨Int.le_refl 0, Int.le_refl 0⟩⟩, List.nodup_nil, ⟨Int.le_refl 0, Int.le_refl 0⟩, (fun p hp => nomatch hp), Nat.le_refl 0, Nat.le_refl 0, (fun p hp => nomatch hp), List.nodup_nil, Nat.le_refl 0, (fun p hp => nomatch hp)⟩
abbrev lit5 : Obj := .cells #[.string ⟨#[97]⟩, .string ⟨#[98]⟩, .string ⟨#[99]⟩, .string ⟨#[100]⟩, .string ⟨#[101]⟩] 9
abbrev lit0 : Obj := .cells #[.int .i64 0, .string ⟨#[47, 98, 105, 110]⟩, .string ⟨#[]⟩, .slice none 0 0] 84
def OpsRel (w2 : World) (nb : Nat) (s4 s30 : Value) (wr : World) : Prop := ∃ k : Nat, k ≤ 5 ∧ s30 = .int .i64 k ∧ Own ⟨w2, [(nb, lit5)]⟩ wr [rowO s4 (opsM.take (k + 1))]
theorem opsM_len : opsM.length = 6 := rfl
theorem bin_cat (n : List UInt8) : (⟨#[47, 98, 105, 110, 47]⟩ ++ toB n : ByteArray) = toB (pBinS ++ n) := by apply ByteArray.ext; simp [pBinS]
theorem nmsM_at (k : Nat) (hk : k < 5) : ∃ n : List UInt8, nmsM[k]? = some n ∧ n.length ≤ 100 ∧ opsM.take (k + 1 + 1) = opsM.take (k + 1) ++ [⟨2, ⟨#[47, 98, 105, 110, 47]⟩ ++ toB n, ⟨#[]⟩, none, 0, 0⟩] ∧ (#[Value.string ⟨#[97]⟩, .string ⟨#[98]⟩, .string ⟨#[99]⟩, .string ⟨#[100]⟩, .string ⟨#[101]⟩] : Array Value)[k]? = some (.string (toB n)) := by
  match k, hk with
  | 0, _ => exact ⟨[97], rfl, by decide, by rw [bin_cat]; rfl, rfl⟩
  | 1, _ => exact ⟨[98], rfl, by decide, by rw [bin_cat]; rfl, rfl⟩
  | 2, _ => exact ⟨[99], rfl, by decide, by rw [bin_cat]; rfl, rfl⟩
  | 3, _ => exact ⟨[100], rfl, by decide, by rw [bin_cat]; rfl, rfl⟩
  | 4, _ => exact ⟨[101], rfl, by decide, by rw [bin_cat]; rfl, rfl⟩
  | n + 5, h => omega
set_option maxHeartbeats 16000000 in
theorem open16 (w : World) (hm : Mx w) : Calls Tryz.prog 20 #[] w fun e w' => ∃ v mb tb g, e = .returned (.tuple #[.pointer (some ⟨v, 0, none⟩), .pointer (some ⟨mb, 0, none⟩)]) ∧ MgAt w v mb tb g [] [] 0 VM w' := by
  obtain ⟨inf, Hi0, Hi1, Hi2, Hi3⟩ := info_op3
  have hnew := new_pos w w [] 500 (Own.start w) (by decide) (by decide)
  have HM := Lib.hid hm
  clear hm
  go_enter Tryz.func20, Tryz.ntmps20
  go_wp2_with fail
  refine hnew.mono ?_
  rintro e w1 ⟨d, rfl, hA1⟩
  have hop := vopen_new (w0 := w) (S := []) (L := []) hA1 (by decide) (by decide) 3000 (by decide)
  clear hnew hA1
  go_wp2_with fail
  refine hop.mono ?_
  rintro e w2 ⟨v, t, l, hmb, D, S1, R1, T1, rfl, h1, _, _⟩
  have c0 : w2.cell? ⟨v, 0, none⟩ = some (.pointer (some ⟨t, 0, none⟩)) := h1.atV.1.1
  have H1 := Lib.hid h1
  have hO := (((Own.start w2).made_at 84 4 #[.int .i64 0, .string ⟨#[47, 98, 105, 110]⟩, .string ⟨#[]⟩, .slice none 0 0] 1 w2.heap.size rfl rfl (by unfold maxLen; decide))).newB_at lit5 (w2.heap.size + 1) (by simp)
  have HO := Lib.hid (show OpsRel w2 (w2.heap.size + 1) (.slice (some ⟨w2.heap.size, 0, none⟩) 1 1) (.int .i64 0) ((w2.alloc lit0).alloc lit5) from ⟨0, by decide, rfl, hO⟩)
  clear hop h1 hO
  go_wp2_with fail
  generalize w2.heap.size + 1 = nb at *
  clear c0
  go_loopw [4, 30] (fun s4 s30 wr => OpsRel w2 nb s4 s30 wr) (fun _ s30 _ => 5 - (intOf s30).toNat)
  case atStart => exact HO.out
  case round =>
    obtain ⟨k, hk, rfl, hO⟩ := hrel
    have h4 : (opsM.take (k + 1)).length = k + 1 := by rw [List.length_take, opsM_len]; omega
    obtain ⟨a4, c4, hv4, _, _⟩ := Own.sized (h := (show Own _ wr (⟨84, 4, u4, (opsM.take (k + 1)).length, ((opsM.take (k + 1)).map OpD.cells).flatten⟩ :: []) from hO))
    subst hv4
    by_cases hlt : k < 5
    · have hki : (k : Int) < 5 := by omega
      have hk0 : (0 : Int) ≤ (k : Int) := by omega
      obtain ⟨nm, _, hnl, ht, hat⟩ := nmsM_at k hlt
      have ck : wr.cell? ⟨nb, k, none⟩ = some (.string (toB nm)) := by
        rw [hO.cellB (b := nb) (List.mem_cons_self ..) k]
        exact hat
      have hsz : (toB nm).size ≤ 100 := by rw [toB_size]; exact hnl
      have HT := Lib.hid ht
      clear ht hat hnl
      generalize toB nm = xb at *
      have H4 := Lib.hid h4
      have HA := Lib.hid (show Own _ (wr.alloc (.cells #[.int .i64 2, .string (⟨#[47, 98, 105, 110, 47]⟩ ++ xb), .string ⟨#[]⟩, .slice none 0 0] 84)) (⟨84, 4, .slice a4 (opsM.take (k + 1)).length c4, (opsM.take (k + 1)).length, ((opsM.take (k + 1)).map OpD.cells).flatten⟩ :: []) from hO.alloc _)
      have Hsrc := Lib.hid (lit_src wr (OpD.cells ⟨2, ⟨#[47, 98, 105, 110, 47]⟩ ++ xb, ⟨#[]⟩, none, 0, 0⟩) 84 (op_one _) wr.heap.size rfl)
      have Hb1 := Lib.hid (show (opsM.take (k + 1)).length + 1 ≤ maxLen from by rw [h4]; unfold maxLen; omega)
      have Hb2 := Lib.hid (show ((opsM.take (k + 1)).length + 1) * 64 ≤ 140737488355328 from by rw [h4]; omega)
      have HK := Lib.hid hlt
      clear hO h4 hlt
      generalize hol : (opsM.take (k + 1)).length = ol at *
      generalize hfl : ((opsM.take (k + 1)).map OpD.cells).flatten = fl at *
      have Hol := Lib.hid hol
      have Hfl := Lib.hid hfl
      clear hol hfl
      go_wp2_with (at_builtin; refine wpList_append_src rfl (.tmp 34) (.tmp 38) 139 rfl (.slice a4 ol c4) ol fl (.slice (some ⟨wr.heap.size, 0, none⟩) 1 1) 1 (OpD.cells ⟨2, ⟨#[47, 98, 105, 110, 47]⟩ ++ xb, ⟨#[]⟩, none, 0, 0⟩) rfl rfl HA.out inf zOp 64 Tryz.underlying139 Hi0 Hi1 Hi2 Hi3 zOp_size (by decide) Hsrc.out rfl Hb1.out Hb2.out ?_)
      intro v5 w5 hO5
      obtain ⟨a5, c5, hv5, _, _⟩ := Own.sized (h := hO5)
      subst hv5
      have HN := Lib.hid (show Own ⟨w2, [(nb, lit5)]⟩ w5 [rowO (.slice a5 (ol + 1) c5) (opsM.take (k + 1 + 1))] from by
        rw [HT.out]
        unfold rowO
        rw [List.length_append, List.map_append, List.flatten_append, Hol.out, Hfl.out]
        simpa using hO5)
      clear hO5 ck
      go_wp2_with fail
      go_roundw
      case rel => exact ⟨k + 1, by have := HK.out; omega, by go_num, HN.out⟩
      case measure => have := HK.out; simp [intOf]; omega
    · obtain rfl : k = 5 := by omega
      rw [show opsM.take (5 + 1) = opsM from rfl] at hO
      have h1 := H1.out.join (show Own w2 wr [rowO (.slice a4 6 c4) opsM] from hO.forget (S' := []) fun m hm => nomatch hm)
      have hdo := vdo_M h1 HM.out (cap := c4) (List.mem_cons_self ..) rfl rfl rfl (by show 49 ≤ (500 - 2) / 2; decide) rfl rfl
      clear H1 h1 hO h4 HO
      rw [show (opsM.take (5 + 1)).length = 6 from rfl]
      go_wp2_with fail
      refine hdo.mono ?_
      rintro e w6 ⟨rfl, X6, ⟨S6, R6, L6, T6, h6, _, _, _, _, _⟩, hE6, hH6, ht6⟩
      have hpn := pnew_any (show VolAt w w6 [] [] v X6 from ⟨S6, R6, L6, T6, h6, (fun x hx => by cases hx), fun b x hb => by cases hb⟩)
      unfold filesV at hpn
      have HEH := Lib.hid (And.intro hE6 hH6)
      clear hdo h6 hE6 hH6 ht6
      go_wp2_with fail
      refine hpn.mono ?_
      rintro e w7 ⟨Y, rfl, hl, hr, h7⟩
      have hV0 : V0 X6 Y = VM := by
        unfold V0 VM
        rw [HEH.out.1, HEH.out.2, hl, hr]
        rfl
      have hmn := mnew_any h7 (N := 0) (by rw [hV0]; exact gd_VM)
      rw [hV0] at hmn
      generalize Y.tb = tb at *
      clear hpn h7 hV0 hl hr
      go_wp2_with fail
      refine hmn.mono ?_
      rintro e w8 ⟨mb, g, rfl, h8, c8⟩
      have H8 := Lib.hid h8
      clear hmn h8
      go_wp2_with fail
      go_ret2
      exact ⟨v, mb, tb, g, rfl, H8.out⟩
end Go.Proofs.YtnjabanjgckeoaaGreatDoor
end
