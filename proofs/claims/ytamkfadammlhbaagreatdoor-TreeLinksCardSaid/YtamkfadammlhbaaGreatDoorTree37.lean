/- TreeLinks: its operations, its walk. -/
import Derived.Test.YtamkfadammlhbaaGreatDoorTree35
namespace Go.Proofs.YtamkfadammlhbaaGreatDoor
open Go.RowKit
open Go.ChangeMaps (setBlock)
set_option linter.unusedVariables false
set_option linter.unusedSimpArgs false
set_option maxRecDepth 100000

def EX1 (xa : List Int) : Et := ⟨8000, 3, [(1, ⟨true, [(toB [97], 2)], [], 0⟩), (2, ⟨false, [], xa, 1⟩)]⟩
def EL (n : Int) (kids : List (ByteArray × Int)) (xb : List Int) : Et := ⟨8000, 3, [(1, ⟨true, kids, [], 0⟩), (2, ⟨false, [], xb, n⟩)]⟩
theorem links1 {xa xb : List Int} (ha : xa.length ≤ 3500) (hb : xb.length ≤ 3500) : doAllE (E0 8000) [⟨2, pA, [], xa⟩, ⟨4, pA, pB, []⟩, ⟨3, pA, [], xb⟩] = some (EL 2 [(toB [97], 2), (toB [98], 2)] xb) := by
  have e1 : doE (E0 8000) ⟨2, pA, [], xa⟩ = some (EX1 xa) := by unfold doE; rw [if_pos ha]; rfl
  have e2 : doE (EX1 xa) ⟨4, pA, pB, []⟩ = some (EL 2 [(toB [97], 2), (toB [98], 2)] xa) := by rfl
  have e3 : doE (EL 2 [(toB [97], 2), (toB [98], 2)] xa) ⟨3, pA, [], xb⟩ = some (EL 2 [(toB [97], 2), (toB [98], 2)] xb) := by unfold doE; rw [if_pos hb]; rfl
  simp only [doAllE, e1, Option.bind_some, e2, e3]
theorem links2 (xb : List Int) : doAllE (EL 2 [(toB [97], 2), (toB [98], 2)] xb) [⟨5, pA, pB, []⟩] = some (EL 2 [(toB [97], 2), (toB [98], 2)] xb) := by rfl
theorem links3 (xb : List Int) : doAllE (EL 2 [(toB [97], 2), (toB [98], 2)] xb) [⟨6, pA, [], []⟩] = some (EL 1 [(toB [98], 2)] xb) := by rfl
theorem links4 (xb : List Int) : doAllE (EL 1 [(toB [98], 2)] xb) [⟨6, pB, [], []⟩] = some (EL 0 [] xb) := by rfl
theorem sum_EL (n : Int) (kids : List (ByteArray × Int)) (xb : List Int) : sumE (EL n kids xb).nodes = xb.length := by simp [sumE, EL]
def findE (E : Et) (l : List UInt8) : Option Int := if okP l then walkE E 1 (namesL l) else none
theorem live_find {w0 w : World} {L : List Rw} {t : Nat} {E : Et} (h : Live w0 L t E w) (hm : Mx w0) (s : ByteArray) (hs : s.size ≤ maxLen) :
    Calls Tryz.prog 15 #[.pointer (some ⟨t, 0, none⟩), .string s] w fun e w' => e = .returned (.tuple #[.int .i64 ((findE E s.data.toList).getD 0), .bool (findE E s.data.toList).isSome]) ∧ Live w0 L t E w' := by
  have hmw := h.mx hm
  have hh := h
  obtain ⟨S, L', T, h1, h2, h3, h4⟩ := h
  have hf := find_any (h3.at_.inWorld h1) h3.good s hs hmw
  have e : findT T s.data.toList = findE E s.data.toList := by
    unfold findT findE
    rw [h4.walk h3.good.keys]
  rw [e] at hf
  exact hf.mono fun e w' hr => ⟨hr.1, hh.later hr.2⟩
/-- One operation that has no bytes. -/
theorem do_one {w w1 : World} {L : List Rw} {t : Nat} {E E' : Et} (hm : Mx w) (h : Live w L t E w1) (k : Int) (p q : ByteArray) (hp : p.size ≤ 1000) (hq : q.size ≤ 1000) (hE : doAllE E [⟨k, p.data.toList, q.data.toList, []⟩] = some E') (h1 : 1 ≤ E.next) (h2 : E.next ≤ 900000000) (h3 : E'.nodes.length ≤ 128) (h4 : (sumE E'.nodes : Int) ≤ E'.quota) (h5 : sumE E'.nodes ≤ 1000000000) :
    Calls Tryz.prog 14 #[.pointer (some ⟨t, 0, none⟩), .slice (some ⟨w1.heap.size, 0, none⟩) 1 1] (w1.alloc (.cells #[.int .i64 k, .string p, .string q, .slice none 0 0] 38))
      fun e w' => e = .returned (.int .i64 0) ∧ Live w L t E' w' := by
  obtain ⟨S, L', T, k1, k2, k3, k4⟩ := h
  have hd := do_lit k1 k3 k4 hm [⟨k, p, q, none, 0, 0⟩] [⟨k, p.data.toList, q.data.toList, []⟩] #[.int .i64 k, .string p, .string q, .slice none 0 0] rfl 1 rfl (by show 1 ≤ 1000000; decide)
    (fun i hi => by
      match i, hi with
      | 0, _ => exact op_none k p q hp hq
      | n + 1, h => exact absurd h (by simp))
    hE h1 h2 h3 h4 h5
  exact hd.mono fun e w' h => ⟨h.1, h.2.less k2⟩
theorem links_do1 {w w1 : World} {t : Nat} {xa xb : List Int} {aa ab : Option Addr} {ca cb : Nat} (hm : Mx w) (h : Live w [] t (E0 8000) w1) (ha : By w (.slice aa xa.length ca) xa) (hb : By w (.slice ab xb.length cb) xb) (hla : xa.length ≤ 3500) (hlb : xb.length ≤ 3500) :
    Calls Tryz.prog 14 #[.pointer (some ⟨t, 0, none⟩), .slice (some ⟨w1.heap.size, 0, none⟩) 3 3] (w1.alloc (.cells #[.int .i64 2, .string (toB pA), .string ⟨#[]⟩, .slice aa xa.length ca, .int .i64 4, .string (toB pA), .string (toB pB), .slice none 0 0, .int .i64 3, .string (toB pA), .string ⟨#[]⟩, .slice ab xb.length cb] 38))
      fun e w' => e = .returned (.int .i64 0) ∧ Live w [] t (EL 2 [(toB [97], 2), (toB [98], 2)] xb) w' := by
  obtain ⟨S, L', T, k1, k2, k3, k4⟩ := h
  have hd := do_lit k1 k3 k4 hm [⟨2, toB pA, ⟨#[]⟩, aa, xa.length, ca⟩, ⟨4, toB pA, toB pB, none, 0, 0⟩, ⟨3, toB pA, ⟨#[]⟩, ab, xb.length, cb⟩] [⟨2, pA, [], xa⟩, ⟨4, pA, pB, []⟩, ⟨3, pA, [], xb⟩]
    #[.int .i64 2, .string (toB pA), .string ⟨#[]⟩, .slice aa xa.length ca, .int .i64 4, .string (toB pA), .string (toB pB), .slice none 0 0, .int .i64 3, .string (toB pA), .string ⟨#[]⟩, .slice ab xb.length cb] rfl 3 rfl (by show 3 ≤ 1000000; decide)
    (fun i hi => by
      match i, hi with
      | 0, _ => exact op_bytes 2 (toB pA) ⟨#[]⟩ (by decide) (by decide) rfl (.inr (.inl ha))
      | 1, _ => exact op_none 4 (toB pA) (toB pB) (by decide) (by decide)
      | 2, _ => exact op_bytes 3 (toB pA) ⟨#[]⟩ (by decide) (by decide) rfl (.inr (.inl hb))
      | n + 3, h => exact absurd h (by simp))
    (links1 hla hlb) (by decide) (by decide) (by show 2 ≤ 128; decide) (by rw [sum_EL]; show (xb.length : Int) ≤ 8000; omega) (by rw [sum_EL]; omega)
  exact hd.mono fun e w' h => ⟨h.1, h.2.less k2⟩

theorem loose_EL {n : Int} {kids : List (ByteArray × Int)} {xb : List Int} : looseE (EL n kids xb).nodes = if n = 0 then [2] else [] := by
  unfold looseE EL
  by_cases h : n = 0
  · subst h; rfl
  · have : (n == 0) = false := by simpa using h
    simp [h]
set_option maxHeartbeats 8000000 in
theorem links_long (w : World) (hm : Mx w) {aa ab : Option Addr} {na nb ca cb : Nat} (r : Bool) (h : (3500 : Int) < na ∨ (¬ (3500 : Int) < na ∧ (3500 : Int) < nb)) :
    Calls Tryz.prog 6 #[.slice aa na ca, .slice ab nb cb, .bool r] w fun e w' => e = .returned (.bool true) ∧ Below w.heap.size w w' := by
  have hal := alive_any w hm
  rcases h with h1 | ⟨h1, h2⟩
  · go_enter Tryz.func6, Tryz.ntmps6
    go_wp2_with fail
    refine hal.mono ?_
    rintro e w1 ⟨rfl, hb1⟩
    go_wp2_with fail
    go_ret
    exact ⟨rfl, hb1⟩
  · go_enter Tryz.func6, Tryz.ntmps6
    go_wp2_with fail
    refine hal.mono ?_
    rintro e w1 ⟨rfl, hb1⟩
    go_wp2_with fail
    go_ret
    exact ⟨rfl, hb1⟩
set_option maxHeartbeats 8000000 in
theorem links_main (w : World) (hm : Mx w) {aa ab : Option Addr} {ca cb : Nat} {xa xb : List Int} (ha : By w (.slice aa xa.length ca) xa) (hb : By w (.slice ab xb.length cb) xb) (r : Bool) (hla : xa.length ≤ 3500) (hlb : xb.length ≤ 3500) :
    Calls Tryz.prog 6 #[.slice aa xa.length ca, .slice ab xb.length cb, .bool r] w fun e w' => e = .returned (.bool true) ∧ Below w.heap.size w w' := by
  have hal := alive_any w hm
  have q1 : ¬ ((3500 : Int) < (xa.length : Int)) := by omega
  have q2 : ¬ ((3500 : Int) < (xb.length : Int)) := by omega
  have HA := Lib.hid ha
  have HB := Lib.hid hb
  clear ha hb
  go_enter Tryz.func6, Tryz.ntmps6
  go_wp2_with fail
  refine hal.mono ?_
  rintro e w1 ⟨rfl, hb1⟩
  have hnew := tnew_any (w0 := w) (D := Pc []) (Own.of_below hb1) (Pc.nil []) 8000 (by decide)
  clear hal hb1
  go_wp2_with fail
  refine hnew.mono ?_
  rintro e w2 ⟨S2, rfl, hO2, H2, _⟩
  have hL2 : Live w [] (w1.heap.size + 3) (E0 8000) w2 := ⟨S2, [], _, hO2, fun _ h => h, H2, new_rep _ 8000⟩
  generalize w1.heap.size + 3 = t at *
  have hdo1 := links_do1 hm hL2 HA.out HB.out hla hlb
  clear hnew hO2 H2 hL2
  go_wp2_with fail
  refine hdo1.mono ?_
  rintro e w3 ⟨rfl, hL3⟩
  have hrd := live_read hL3 hm (toB pB) (by decide) (f := ⟨false, [], xb, 2⟩) (by rfl) rfl (by show xb.length ≤ _; omega)
  clear hdo1 hL3
  go_wp2_with fail
  refine hrd.mono ?_
  rintro e w4 ⟨v4, rfl, hL4⟩
  obtain ⟨_, ho4⟩ := hL4.row (List.mem_cons_self ..)
  obtain ⟨a4, c4, rfl, _, _⟩ := Own.sized (h := (show Own _ w4 (⟨5, 1, v4, xb.length, bs xb⟩ :: []) from ho4))
  have hf1 : Calls Tryz.prog 15 #[.pointer (some ⟨t, 0, none⟩), .string (toB pA)] w4 (fun e w' => e = .returned (.tuple #[.int .i64 2, .bool true]) ∧ Live w _ t _ w') := live_find hL4 hm (toB pA) (by decide)
  clear hrd hL4 ho4
  go_wp2_with fail
  refine hf1.mono ?_
  rintro e w5 ⟨rfl, hL5⟩
  have hf2 : Calls Tryz.prog 15 #[.pointer (some ⟨t, 0, none⟩), .string (toB pB)] w5 (fun e w' => e = .returned (.tuple #[.int .i64 2, .bool true]) ∧ Live w _ t _ w') := live_find hL5 hm (toB pB) (by decide)
  clear hf1 hL5
  go_wp2_with fail
  refine hf2.mono ?_
  rintro e w6 ⟨rfl, hL6⟩
  have cv1 := (hL6.by (v := .slice a4 xb.length c4) (zs := xb) (List.mem_cons_self ..) HB.out.2.1).toStr
  have cv2 := (HB.out.later hL6.below).toStr
  have hus := live_used hL6 (by rw [sum_EL]; omega)
  rw [sum_EL] at hus
  clear hf2 hL6
  generalize strOfNums xb = sx at *
  go_wp2_with fail
  refine hus.mono ?_
  rintro e w7 ⟨rfl, hL7⟩
  clear hus cv1 cv2
  have hL7' := hL7.less (M := []) (fun x hx => by cases hx)
  clear hL7
  cases r with
  | false =>
    have HLX := hL7'
    clear hL7'
    go_wp2_with fail
    have hd3 := do_one hm HLX 6 (toB pA) ⟨#[]⟩ (by decide) (by decide) (links3 xb) (by show (1 : Int) ≤ 3; decide) (by show (3 : Int) ≤ 900000000; decide) (by show 2 ≤ 128; decide) (by rw [sum_EL]; show (xb.length : Int) ≤ 8000; omega) (by rw [sum_EL]; omega)
    clear HLX
    refine hd3.mono ?_
    rintro e wA ⟨rfl, hLA⟩
    have hlo := live_loose hLA (by show 2 ≤ 1000000; decide)
    clear hd3 hLA
    go_wp2_with fail
    refine hlo.mono ?_
    rintro e wB ⟨vB, zs, rfl, hz, hLB⟩
    have hz0 : zs = [] := by
      rw [loose_EL, if_neg (by decide)] at hz
      exact List.Perm.eq_nil hz
    subst hz0
    rw [show ([] : List Int).mergeSort (fun x y => decide (x ≤ y)) = [] by simp] at hLB
    obtain ⟨_, hoB⟩ := hLB.row (List.mem_cons_self ..)
    obtain ⟨aB, cB, rfl, _, _⟩ := Own.sized (h := (show Own _ wB (⟨3, 1, vB, 0, []⟩ :: []) from hoB))
    have hLB' := hLB.less (M := []) (fun x hx => by cases hx)
    have hd4 := do_one hm hLB' 6 (toB pB) ⟨#[]⟩ (by decide) (by decide) (links4 xb) (by show (1 : Int) ≤ 3; decide) (by show (3 : Int) ≤ 900000000; decide) (by show 2 ≤ 128; decide) (by rw [sum_EL]; show (xb.length : Int) ≤ 8000; omega) (by rw [sum_EL]; omega)
    clear hlo hLB hLB' hoB hz
    go_wp2_with fail
    refine hd4.mono ?_
    rintro e wC ⟨rfl, hLC⟩
    have hlo1 := live_loose hLC (by show 2 ≤ 1000000; decide)
    clear hd4 hLC
    go_wp2_with fail
    refine hlo1.mono ?_
    rintro e wD ⟨vD, zs, rfl, hz, hLD⟩
    have hz2 : zs = [2] := perm_one (by rw [loose_EL, if_pos rfl] at hz; exact hz)
    subst hz2
    rw [show ([2] : List Int).mergeSort (fun x y => decide (x ≤ y)) = [2] by simp] at hLD
    obtain ⟨_, hoD⟩ := hLD.row (List.mem_cons_self ..)
    obtain ⟨aD, cD, rfl, _, _⟩ := Own.sized (h := (show Own _ wD (⟨3, 1, vD, 1, [.int .i64 2]⟩ :: []) from hoD))
    have hlo2 := live_loose (hLD.less (M := []) (fun x hx => by cases hx)) (by show 2 ≤ 1000000; decide)
    clear hlo1 hLD hoD hz
    go_wp2_with fail
    refine hlo2.mono ?_
    rintro e wE ⟨vE, zs, rfl, hz, hLE⟩
    have hz2 : zs = [2] := perm_one (by rw [loose_EL, if_pos rfl] at hz; exact hz)
    subst hz2
    rw [show ([2] : List Int).mergeSort (fun x y => decide (x ≤ y)) = [2] by simp] at hLE
    obtain ⟨_, hoE⟩ := hLE.row (List.mem_cons_self ..)
    obtain ⟨gE, cE, rfl, _, _, _, _⟩ := Own.form (h := (show Own _ wE (⟨3, 1, vE, 1, [.int .i64 2]⟩ :: []) from hoE)) (by decide)
    have cE0 : wE.cell? ⟨gE, 0, none⟩ = some (.int .i64 2) := Own.cell (h := (show Own _ wE (⟨3, 1, .slice (some ⟨gE, 0, none⟩) 1 cE, 1, [.int .i64 2]⟩ :: []) from hoE)) 0 (by decide)
    have hus2 := live_used hLE (by rw [sum_EL]; omega)
    rw [sum_EL] at hus2
    clear hlo2 hLE hoE hz
    go_wp2_with fail
    refine hus2.mono ?_
    rintro e wF ⟨rfl, hLF⟩
    have hbF := hLF.below
    clear hus2 hLF cE0
    go_wp2_with fail
    go_ret
    exact ⟨rfl, hbF⟩
  | true =>
    have hd2 := do_one hm hL7' 5 (toB pA) (toB pB) (by decide) (by decide) (links2 xb) (by show (1 : Int) ≤ 3; decide) (by show (3 : Int) ≤ 900000000; decide) (by show 2 ≤ 128; decide) (by rw [sum_EL]; show (xb.length : Int) ≤ 8000; omega) (by rw [sum_EL]; omega)
    clear hL7'
    go_wp2_with fail
    refine hd2.mono ?_
    rintro e w8 ⟨rfl, hL8⟩
    have hdr : Calls Tryz.prog 27 #[.pointer (some ⟨t, 0, none⟩), .string (toB [47])] w8 (fun e w' => e = .returned (.bool true) ∧ Live w _ t (EL 2 [(toB [97], 2), (toB [98], 2)] xb) w') := live_dir hL8 hm (toB [47]) (by decide)
    clear hd2 hL8
    go_wp2_with fail
    refine hdr.mono ?_
    rintro e w9 ⟨rfl, hL9⟩
    have hno := live_nodes hL9
    rw [show ((EL 2 [(toB [97], 2), (toB [98], 2)] xb).nodes.length : Int) = 2 from rfl] at hno
    clear hdr
    have HLX := hL9
    clear hL9
    go_wp2_with (go_at_call 24; refine hno.mono ?_; rintro e w' ⟨rfl, rfl⟩)
    have hd3 := do_one hm HLX 6 (toB pA) ⟨#[]⟩ (by decide) (by decide) (links3 xb) (by show (1 : Int) ≤ 3; decide) (by show (3 : Int) ≤ 900000000; decide) (by show 2 ≤ 128; decide) (by rw [sum_EL]; show (xb.length : Int) ≤ 8000; omega) (by rw [sum_EL]; omega)
    clear HLX
    refine hd3.mono ?_
    rintro e wA ⟨rfl, hLA⟩
    have hlo := live_loose hLA (by show 2 ≤ 1000000; decide)
    clear hd3 hLA
    go_wp2_with fail
    refine hlo.mono ?_
    rintro e wB ⟨vB, zs, rfl, hz, hLB⟩
    have hz0 : zs = [] := by
      rw [loose_EL, if_neg (by decide)] at hz
      exact List.Perm.eq_nil hz
    subst hz0
    rw [show ([] : List Int).mergeSort (fun x y => decide (x ≤ y)) = [] by simp] at hLB
    obtain ⟨_, hoB⟩ := hLB.row (List.mem_cons_self ..)
    obtain ⟨aB, cB, rfl, _, _⟩ := Own.sized (h := (show Own _ wB (⟨3, 1, vB, 0, []⟩ :: []) from hoB))
    have hLB' := hLB.less (M := []) (fun x hx => by cases hx)
    have hd4 := do_one hm hLB' 6 (toB pB) ⟨#[]⟩ (by decide) (by decide) (links4 xb) (by show (1 : Int) ≤ 3; decide) (by show (3 : Int) ≤ 900000000; decide) (by show 2 ≤ 128; decide) (by rw [sum_EL]; show (xb.length : Int) ≤ 8000; omega) (by rw [sum_EL]; omega)
    clear hlo hLB hLB' hoB hz
    go_wp2_with fail
    refine hd4.mono ?_
    rintro e wC ⟨rfl, hLC⟩
    have hlo1 := live_loose hLC (by show 2 ≤ 1000000; decide)
    clear hd4 hLC
    go_wp2_with fail
    refine hlo1.mono ?_
    rintro e wD ⟨vD, zs, rfl, hz, hLD⟩
    have hz2 : zs = [2] := perm_one (by rw [loose_EL, if_pos rfl] at hz; exact hz)
    subst hz2
    rw [show ([2] : List Int).mergeSort (fun x y => decide (x ≤ y)) = [2] by simp] at hLD
    obtain ⟨_, hoD⟩ := hLD.row (List.mem_cons_self ..)
    obtain ⟨aD, cD, rfl, _, _⟩ := Own.sized (h := (show Own _ wD (⟨3, 1, vD, 1, [.int .i64 2]⟩ :: []) from hoD))
    have hlo2 := live_loose (hLD.less (M := []) (fun x hx => by cases hx)) (by show 2 ≤ 1000000; decide)
    clear hlo1 hLD hoD hz
    go_wp2_with fail
    refine hlo2.mono ?_
    rintro e wE ⟨vE, zs, rfl, hz, hLE⟩
    have hz2 : zs = [2] := perm_one (by rw [loose_EL, if_pos rfl] at hz; exact hz)
    subst hz2
    rw [show ([2] : List Int).mergeSort (fun x y => decide (x ≤ y)) = [2] by simp] at hLE
    obtain ⟨_, hoE⟩ := hLE.row (List.mem_cons_self ..)
    obtain ⟨gE, cE, rfl, _, _, _, _⟩ := Own.form (h := (show Own _ wE (⟨3, 1, vE, 1, [.int .i64 2]⟩ :: []) from hoE)) (by decide)
    have cE0 : wE.cell? ⟨gE, 0, none⟩ = some (.int .i64 2) := Own.cell (h := (show Own _ wE (⟨3, 1, .slice (some ⟨gE, 0, none⟩) 1 cE, 1, [.int .i64 2]⟩ :: []) from hoE)) 0 (by decide)
    have hus2 := live_used hLE (by rw [sum_EL]; omega)
    rw [sum_EL] at hus2
    clear hlo2 hLE hoE hz
    go_wp2_with fail
    refine hus2.mono ?_
    rintro e wF ⟨rfl, hLF⟩
    have hbF := hLF.below
    clear hus2 hLF cE0
    go_wp2_with fail
    go_ret
    exact ⟨rfl, hbF⟩

theorem links_law (w : World) (hm : Mx w) {a0 a1 : Option Addr} {n0 n1 c0 c1 : Nat} {xa xb : List Int} (ha : By w (.slice a0 n0 c0) xa) (hb : By w (.slice a1 n1 c1) xb) (r : Bool) :
    Calls Tryz.prog 6 #[.slice a0 n0 c0, .slice a1 n1 c1, .bool r] w fun e w' => e = .returned (.bool true) ∧ Below w.heap.size w w' := by
  obtain ⟨a, c, e, _⟩ := ha.2.2
  obtain ⟨a', c', e', _⟩ := hb.2.2
  have en : n0 = xa.length := by injection e
  have en' : n1 = xb.length := by injection e'
  by_cases h1 : n0 ≤ 3500
  · by_cases h2 : n1 ≤ 3500
    · subst en en'
      exact links_main w hm ha hb r h1 h2
    · exact links_long w hm r (.inr ⟨by omega, by omega⟩)
  · exact links_long w hm r (.inl (by omega))
end Go.Proofs.YtamkfadammlhbaaGreatDoor
