/- 'CrcJoins': of bytes of whatever number the law returns true, and writes nothing that was there. -/
import Derived.Test.YtokokppifgoiaaaArg
import Derived.Test.YtokokppifgoiaaaLin
import Derived.Test.YtokokppifgoiaaaOwn
import Derived.WalkLawsBesides
import Derived.Deep.RegionLaw
import Derived.Deep.DeepCutAuto
namespace Go.Proofs.Ytokokppifgoiaaa
set_option linter.unusedVariables false
set_option linter.unusedSimpArgs false
open Go.RowKit Go.WideShapes
set_option linter.unusedVariables false

theorem info5 : (Try.prog.info? 5).map (fun i => (i.zero, i.size, i.bytes)) = some (some (.int .u8 0), 1, 1) := by kernel_rfl
abbrev bs (l : List Int) : List Value := l.map (Value.int .u8)

theorem run_min4 (P : Program) (ts : Array TypeId) (t : TypeId) (x y z n : Nat) (hn : n = min (min (min x y) z) 200) (w : World) :
    (Builtin.min_ ts t #[.int .i64 (x : Int), .int .i64 (y : Int), .int .i64 (z : Int), .int .i64 200]).run P w = .ok (.int .i64 (n : Int)) w := by
  subst hn
  simp [Builtin.min_, Builtin.min2]
  omega

theorem IsBytes.src {w : World} {a : Option Addr} {len cap : Nat} {x : List Int} (h : IsBytes w (.slice a len cap) x) (n : Nat) (hn : n ≤ x.length) : Src w (.slice a n cap) (bs (x.take n)) := by
  obtain ⟨a', cap', he, ⟨h1, h2, h3⟩, hz, hw⟩ := h
  injection he with e1 e2 e3
  subst e1 e2 e3
  have hlen : (bs (x.take n)).length = n := by simp [bs]; omega
  cases a with
  | none =>
    have h0 := h3 rfl
    have : n = 0 := by omega
    subst this
    subst h0
    exact .inl ⟨rfl, rfl⟩
  | some ad =>
    refine .inr ⟨ad, cap, by rw [hlen], fun j u hj => ?_, fun u hu => ?_⟩
    · have hjn : j < n := by
        rcases Nat.lt_or_ge j n with h | h
        · exact h
        · rw [List.getElem?_eq_none (by omega)] at hj; cases hj
      obtain ⟨b, off, hb, hc⟩ := hz (by intro h; subst h; simp at hn; omega)
      injection hb with hb
      subst hb
      rw [add_plain, hc j (by omega)]
      simp [bs, List.getElem?_take, hjn, List.getElem?_eq_getElem (show j < x.length by omega)] at hj
      rw [← hj]
      simp [List.getD_eq_getElem?_getD, List.getElem?_eq_getElem (show j < x.length by omega)]
    · obtain ⟨q, _, rfl⟩ := List.mem_map.1 hu
      rfl

def xorTo (X b : List Int) : Nat → List Int
  | 0 => X
  | k + 1 => (xorTo X b k).set k (bx (at0 (xorTo X b k) k) (at0 b k))
theorem xorTo_length (X b : List Int) (k : Nat) : (xorTo X b k).length = X.length := by
  induction k with
  | zero => rfl
  | succ k ih => rw [xorTo, List.length_set, ih]
theorem at0_xorTo (X b : List Int) (k i : Nat) (hk : k ≤ X.length) : at0 (xorTo X b k) i = if i < k then bx (at0 X i) (at0 b i) else at0 X i := by
  induction k with
  | zero => rfl
  | succ k ih =>
    have ih := ih (by omega)
    rw [xorTo, at0_set, xorTo_length]
    by_cases h : k = i
    · subst h
      rw [if_pos ⟨rfl, by omega⟩, if_pos (by omega)]
      have : at0 (xorTo X b k) k = at0 X k := by rw [ih, if_neg (by omega)]
      rw [this]
    · rw [if_neg (by omega), ih]
      by_cases h2 : i < k
      · rw [if_pos h2, if_pos (by omega)]
      · rw [if_neg h2, if_neg (by omega)]
theorem at0_get (L : List Int) (i : Nat) (h : i < L.length) : at0 L i = L[i] := by
  unfold at0
  rw [List.getD_eq_getElem?_getD, List.getElem?_eq_getElem h]
  rfl
theorem xorTo_all (X b : List Int) (n : Nat) (hX : X.length = n) (hb : n ≤ b.length) : xorTo X b n = bxs X (b.take n) := by
  apply List.ext_getElem
  · rw [xorTo_length]; simp [bxs]; omega
  · intro i h1 h2
    rw [xorTo_length] at h1
    rw [← at0_get _ _ (by rw [xorTo_length]; exact h1), at0_xorTo _ _ _ _ (by omega), if_pos (by omega), at0_get X i h1, at0_get b i (by omega)]
    simp [bxs]
theorem joins_end (X Y b : List Int) (n : Nat) (hX : Bytes X) (hY : Bytes Y) (hb : Bytes b) (h1 : X.length = n) (h2 : Y.length = n) (h3 : n ≤ b.length) : crc (xorTo X b n) ^^^ crc (xorTo Y b n) = crc X ^^^ crc Y := by
  rw [xorTo_all X b n h1 h3, xorTo_all Y b n h2 h3]
  exact joins X Y (b.take n) hX hY (fun q hq => hb q (List.mem_of_mem_take hq)) (by simp; omega) (by simp; omega)
theorem xorTo_bytes (X b : List Int) (hX : Bytes X) (hb : Bytes b) (k : Nat) : Bytes (xorTo X b k) := by
  induction k with
  | zero => exact hX
  | succ k ih =>
    intro q hq
    rw [xorTo] at hq
    rcases List.mem_or_eq_of_mem_set hq with h | rfl
    · exact ih q h
    · have bd : ∀ (L : List Int), Bytes L → at0 L k < 256 := by
        intro L hL
        by_cases h : k < L.length
        · rw [at0_get L k h]; exact (hL _ (List.getElem_mem h)).2
        · unfold at0; rw [List.getD_eq_getElem?_getD, List.getElem?_eq_none (by omega)]; decide
      exact bx_byte _ _ (bd _ ih) (bd b hb)
theorem own_bytes {W0 w : World} {g n cap : Nat} {X : List Int} {L : List Row} (h : Own W0 w ((5, .slice (some ⟨g, 0, none⟩) n cap, bs X) :: L)) (hX : Bytes X) : IsBytes w (.slice (some ⟨g, 0, none⟩) n cap) X := by
  have hl : X.length = n := by have := h.len; simpa [bs] using this
  obtain ⟨g', cap', he, _, _, h5, h6⟩ := h.form
  injection he with e1 e2 e3
  subst e3
  refine ⟨_, cap, by rw [hl], ⟨by simpa [bs] using h5, by unfold maxLen at h6; exact h6, fun h => by cases h⟩, fun _ => ⟨g, 0, rfl, fun j hj => ?_⟩, hX⟩
  rw [Nat.zero_add, h.cell j (by omega)]
  simp [bs, List.getD_eq_getElem?_getD, List.getElem?_eq_getElem hj]

theorem IsBytes.alloc {w : World} {v : Value} {zs : List Int} (h : IsBytes w v zs) (o : Obj) : IsBytes (w.alloc o) v zs := h.below ((Below.refl _ _).alloc (Nat.le_refl _) o)

theorem own_u8 {W0 w : World} {g n cap : Nat} {X : List Int} {L : List Row} (h : Own W0 w ((5, .slice (some ⟨g, 0, none⟩) n cap, bs X) :: L)) (k : Nat) (hk : k < n) : w.cell? ⟨g, k, none⟩ = some (.int .u8 (at0 X k)) := by
  have hl : X.length = n := by have := h.len; simpa [bs] using this
  rw [h.cell k hk, at0_get X k (by omega)]
  simp [bs, List.getElem?_eq_getElem (show k < X.length by omega)]
theorem byte_at (L : List Int) (h : Bytes L) (k : Nat) : 0 ≤ at0 L k ∧ at0 L k < 256 := by
  by_cases hk : k < L.length
  · rw [at0_get L k hk]; exact h _ (List.getElem_mem hk)
  · unfold at0; rw [List.getD_eq_getElem?_getD, List.getElem?_eq_none (by omega)]; decide
theorem bits_bx (p q : Int) (hp : 0 ≤ p ∧ p < 256) (hq : 0 ≤ q ∧ q < 256) : bits .xor .u8 p q = bx p q := u8_xor p q hp.1 hp.2 hq.1 hq.2
theorem own_xor {w wr : World} {g8 g9 n cp8 cp9 : Nat} {X Y : List Int} (hO : Own w wr [(5, .slice (some ⟨g8, 0, none⟩) n cp8, bs X), (5, .slice (some ⟨g9, 0, none⟩) n cp9, bs Y)]) (k : Nat) (p r q : Int) (hp : 0 ≤ p ∧ p < 256) (hr : 0 ≤ r ∧ r < 256) (hq : 0 ≤ q ∧ q < 256) :
    Own w (((wr.setCell ⟨g8, k, none⟩ (.int .u8 (bits .xor .u8 p q))).drew.setCell ⟨g9, k, none⟩ (.int .u8 (bits .xor .u8 r q))).drew) [(5, .slice (some ⟨g8, 0, none⟩) n cp8, bs (X.set k (bx p q))), (5, .slice (some ⟨g9, 0, none⟩) n cp9, bs (Y.set k (bx r q)))] := by
  rw [bits_bx p q hp hq, bits_bx r q hr hq]
  have h := ((hO.set k (.int .u8 (bx p q))).drew.swap.set k (.int .u8 (bx r q))).drew.swap
  simpa only [bs, List.map_set] using h

set_option maxHeartbeats 1600000 in
theorem joins_any (v0 v1 v2 : Value) (x y b : List Int) (w : World) (h0 : IsBytes w v0 x) (h1 : IsBytes w v1 y) (h2 : IsBytes w v2 b) :
    Calls Try.prog 5 #[v0, v1, v2] w fun e w' => e = .returned (.bool true) ∧ Below w.heap.size w w' := by
  obtain ⟨a0, c0, rfl, ⟨l0, m0, _⟩, _, w0⟩ := id h0
  obtain ⟨a1, c1, rfl, ⟨l1, m1, _⟩, _, w1⟩ := id h1
  obtain ⟨a2, c2, rfl, ⟨l2, m2, _⟩, z2, w2⟩ := id h2
  obtain ⟨n, hn⟩ : ∃ n, n = min (min (min x.length y.length) b.length) 200 := ⟨_, rfl⟩
  have hmn := fun (w : World) => run_min4 Try.prog #[3, 3, 3, 3] 3 x.length y.length b.length n hn w
  have hn0 : n ≤ x.length := by omega
  have hn1 : n ≤ y.length := by omega
  have hn2 : n ≤ b.length := by omega
  have hn3 : n ≤ 200 := by omega
  have hc0 : n ≤ c0 := by omega
  have hc1 : n ≤ c1 := by omega
  clear hn
  obtain ⟨i0, hi, hz0, hz1, hz2⟩ := info_parts info5
  go_enter Try.func5, Try.ntmps5
  go_upto_region 4 with (go_at_call 6; refine (alive_any _).mono ?_; rintro e w3 ⟨rfl, hb3⟩)
  have hO0 : Own w w3 [] := Own.of_below hb3
  have hs0 : ∀ (W : World) (L : List Row), Own w W L → Src W (.slice a0 n c0) (bs (x.take n)) := fun W L h => (h0.below h.below).src n hn0
  have hs1 : ∀ (W : World) (L : List Row), Own w W L → Src W (.slice a1 n c1) (bs (y.take n)) := fun W L h => (h1.below h.below).src n hn1
  have hlx : (bs (x.take n)).length = n := by simp [bs]; omega
  have hly : (bs (y.take n)).length = n := by simp [bs]; omega
  have hx63 : ([] : List Value).length + (bs (x.take n)).length ≤ maxLen := by rw [hlx]; unfold maxLen; simp; omega
  have hy63 : ([] : List Value).length + (bs (y.take n)).length ≤ maxLen := by rw [hly]; unfold maxLen; simp; omega
  have hxby : (([] : List Value).length + (bs (x.take n)).length) * 1 ≤ 140737488355328 := by rw [hlx]; simp; omega
  have hyby : (([] : List Value).length + (bs (y.take n)).length) * 1 ≤ 140737488355328 := by rw [hly]; simp; omega
  have Hx63 := Lib.hid hx63
  have Hy63 := Lib.hid hy63
  have Hxby := Lib.hid hxby
  have Hyby := Lib.hid hyby
  clear hlx hly hx63 hy63 hxby hyby
  go_cut [8, 9] (fun s8 s9 wx => Own w wx [(5, s8, bs (x.take n)), (5, s9, bs (y.take n))])
  case first =>
    go_region_law (first
      | ((refine step_append_src (by rfl) (.tmp 21) (.tmp 24) 22 (by rfl) _ (.slice a0 n c0) [] (bs (x.take n)) (by rfl) (by rfl) (by first | exact (hO0.empty 5).drew | exact (hO0.empty2 5).drew | exact (hO0.empty2 5).swap.drew) i0 (.int .u8 0) 1 Try.underlying22 hi hz0 hz1 hz2 rfl hs0 Hx63.out Hxby.out ?_; intro v5 w5 hA5))
      | ((refine step_append_src (by rfl) (.tmp 26) (.tmp 29) 22 (by rfl) _ (.slice a1 n c1) [] (bs (y.take n)) (by rfl) (by rfl) (by first | exact hA5.empty 5 | exact hA5.swap) i0 (.int .u8 0) 1 Try.underlying22 hi hz0 hz1 hz2 rfl hs1 Hy63.out Hyby.out ?_; intro v6 w6 hA6)))
    all_goals (go_wp2_with fail; go_meet; exact hA6.swap)
  case rest =>
    have hX : Bytes (x.take n) := fun q hq => w0 q (List.mem_of_mem_take hq)
    have hY : Bytes (y.take n) := fun q hq => w1 q (List.mem_of_mem_take hq)
    have hlX : (x.take n).length = n := by rw [List.length_take]; omega
    have hlY : (y.take n).length = n := by rw [List.length_take]; omega
    have HJ := Lib.hid (joins_end (x.take n) (y.take n) b n hX hY w2 hlX hlY hn2)
    clear hs0 hs1 w0 w1 hO0 Hx63 Hy63 Hxby Hyby
    generalize x.take n = X at *
    generalize y.take n = Y at *
    obtain ⟨g8, cp8, e8, hg8, _⟩ := hcut.form
    obtain ⟨g9, cp9, e9, hg9, _⟩ := hcut.swap.form
    rw [show (bs X).length = n from by simp [bs, hlX]] at e8
    rw [show (bs Y).length = n from by simp [bs, hlY]] at e9
    subst e8 e9
    have hv8 := own_bytes hcut hX
    have hv9 := own_bytes hcut.swap hY
    go_wp2_with fail
    refine (of_one _ _ X _ (World.cell?_alloc_new _ _ _ _) (hv8.alloc _)).mono ?_
    rintro e w5 ⟨rfl, rfl⟩
    go_wp2_with fail
    refine (of_one _ _ Y _ (by rw [← World.size_alloc (w := wc)]; exact World.cell?_alloc_new _ _ _ _) ((hv9.alloc _).alloc _)).mono ?_
    rintro e w5 ⟨rfl, rfl⟩
    go_wp2_with fail
    have hO := ((hcut.alloc (.cells #[.slice (some ⟨g8, 0, none⟩) n cp8] 22)).alloc (.cells #[.slice (some ⟨g9, 0, none⟩) n cp9] 22))
    have hne : g8 ≠ g9 := by have := (List.pairwise_cons.1 hcut.apart).1 _ (List.mem_cons_self ..); simpa [Value.ownBlock] using this
    have hne' : ¬ g9 = g8 := fun e => hne e.symm
    clear hv8 hv9 hcut hg8 hg9
    go_loopw [11, 39] (fun _ i wr => ∃ k : Nat, k ≤ n ∧ i = .int .i64 k ∧ Own w wr [(5, .slice (some ⟨g8, 0, none⟩) n cp8, bs (xorTo X b k)), (5, .slice (some ⟨g9, 0, none⟩) n cp9, bs (xorTo Y b k))]) (fun _ i _ => n - (intOf i).toNat)
    case atStart => exact ⟨0, by omega, rfl, hO⟩
    case round =>
      obtain ⟨k, hk, rfl, hO⟩ := hrel
      by_cases hlk : k < n
      · obtain ⟨bb, off, rfl, hcz⟩ := z2 (by intro h; subst h; simp at hn2; omega)
        have hcb := hO.old (hcz k (by omega))
        have hlb : k < b.length := by omega
        rw [show b.getD k 0 = at0 b k from rfl] at hcb
        have hcx : wr.cell? ⟨g8, k, none⟩ = some (.int .u8 (at0 (xorTo X b k) k)) := own_u8 hO k hlk
        have hcy : wr.cell? ⟨g9, k, none⟩ = some (.int .u8 (at0 (xorTo Y b k) k)) := own_u8 hO.swap k hlk
        have hfx := hO.free k
        have hfy := hO.swap.free k
        have hbb : bb < w.heap.size := World.block_lt_of_cell? w _ (hcz k (by omega))
        have hbx : ¬ g8 = bb := by have := hO.lt (List.mem_cons_self ..) (k := g8) rfl; omega
        have hR := own_xor hO k (at0 (xorTo X b k) k) (at0 (xorTo Y b k) k) (at0 b k) (byte_at _ (xorTo_bytes X b hX w2 k) k) (byte_at _ (xorTo_bytes Y b hY w2 k) k) (byte_at _ w2 k)
        have HX1 : Hid (xorTo X b (k + 1) = (xorTo X b k).set k (bx (at0 (xorTo X b k) k) (at0 b k))) := rfl
        have HY1 : Hid (xorTo Y b (k + 1) = (xorTo Y b k).set k (bx (at0 (xorTo Y b k) k) (at0 b k))) := rfl
        generalize at0 (xorTo X b k) k = p at *
        generalize at0 (xorTo Y b k) k = r at *
        generalize at0 b k = q at *
        have HR := Lib.hid hR
        clear hR hcz z2 hO
        have e1 : (0 : Int) ≤ (k : Int) := by omega
        have e2 : (k : Int) < (n : Int) := by omega
        have e3 : (k : Int) < (b.length : Int) := by omega
        go_wp2_with fail
        go_region
        all_goals go_wp2_with fail
        all_goals go_region
        all_goals (clear e1 e2 e3)
        all_goals go_wp2_with fail
        all_goals go_roundw
        case rel => exact ⟨k + 1, by omega, by go_num, by rw [HX1.out, HY1.out]; exact HR.out⟩
        case measure => simp [intOf]; omega
      · obtain rfl : k = n := by omega
        have hX' := xorTo_bytes X b hX w2 k
        have hY' := xorTo_bytes Y b hY w2 k
        generalize xorTo X b k = X1 at *
        generalize xorTo Y b k = Y1 at *
        have hv8 := own_bytes hO hX'
        have hv9 := own_bytes hO.swap hY'
        have hbw := hO.below
        have hsz := hO.size
        have heq : (bits BinOp.xor IntKind.u32 ((crc X1).toNat : Int) ((crc Y1).toNat : Int) == bits BinOp.xor IntKind.u32 ((crc X).toNat : Int) ((crc Y).toNat : Int)) = true := by
          rw [xor32, xor32, HJ.out]; exact beq_self_eq_true _
        clear hO hX hY hX' hY' z2
        go_wp2_with fail
        refine (of_one _ _ X1 _ (World.cell?_alloc_new _ _ _ _) (hv8.alloc _)).mono ?_
        rintro e w5 ⟨rfl, rfl⟩
        go_wp2_with fail
        refine (of_one _ _ Y1 _ (by rw [← World.size_alloc (w := wr)]; exact World.cell?_alloc_new _ _ _ _) ((hv9.alloc _).alloc _)).mono ?_
        rintro e w5 ⟨rfl, rfl⟩
        go_wp2_with fail
        go_ret
        exact ⟨rfl, (hbw.alloc hsz _).alloc (by simp; omega) _⟩
end Go.Proofs.Ytokokppifgoiaaa
