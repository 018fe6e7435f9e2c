/- The log that lies on a disk is opened; a new one, on one of noughts: the calls. -/
import Derived.Test.YtpebpchnkhbcfaaLOpen
namespace Go.Proofs.Ytpebpchnkhbcfaa
open Go.RowKit
set_option linter.unusedVariables false
set_option linter.unusedSimpArgs false

theorem built_log (d : Nat) : Try.prog.built 61 [(0, .pointer (some ⟨d, 0, none⟩))] = some #[.pointer (some ⟨d, 0, none⟩), .int .i64 0, .int .i64 0, .slice none 0 0, .bool false] := by kernel_rfl
theorem built_root0 : Try.prog.built 59 [] = some #[.int .i64 0, .int .i64 0] := by kernel_rfl
theorem DkAt.log {W0 : Base} {w : World} {d : Nat} {D : Dk} {L : List Rw} (h : DkAt W0 w d D L) : DkAt W0 (w.alloc (.cells #[.pointer (some ⟨d, 0, none⟩), .int .i64 0, .int .i64 0, .slice none 0 0, .bool false] 61)) d D (rowLog w.heap.size d 0 0 (.slice none 0 0) false :: L) := by
  obtain ⟨R, h1, h2⟩ := h.open
  have h3 := h1.made 61 5 #[.pointer (some ⟨d, 0, none⟩), .int .i64 0, .int .i64 0, .slice none 0 0, .bool false] 1 rfl (by unfold maxLen; decide)
  exact h2 _ (rowLog w.heap.size d 0 0 (.slice none 0 0) false :: L) (h3.perm List.perm_middle.symm)
theorem LgAt.fresh {W0 : Base} {w : World} {l d : Nat} {D : Dk} {L : List Rw} (h : DkAt W0 w d D (rowLog l d 0 0 (.slice none 0 0) false :: L)) (h6 : 6 ≤ D.last.length) : LgAt W0 w l d D 0 0 [] false L := by
  refine ⟨h6, by decide, Nat.zero_le _, .slice none 0 0, [], [], ?_, Lst.nil _⟩
  obtain ⟨R, h1, h2⟩ := h.open
  refine (h2 _ (rowV (.slice none 0 0) [] :: (rowLog l d 0 0 (.slice none 0 0) false :: L)) ?_).perm (List.Perm.swap _ _ _)
  exact ((h1.nil 30 1) : Own W0 _ (rowV (.slice none 0 0) [] :: _)).perm List.perm_middle.symm

set_option maxHeartbeats 3200000 in
set_option maxRecDepth 100000 in
theorem open_holds {W0 : Base} {w : World} {d : Nat} {D : Dk} {L : List Rw} {h side used : Nat} {recs : List (List Int)} (hA : DkAt W0 w d D L) (hup : D.down = false) (hH : Holds D.last h side used recs) :
    Calls Try.prog 9 #[.pointer (some ⟨d, 0, none⟩)] w fun e w' => ∃ l, e = .returned (.tuple #[.pointer (some ⟨l, 0, none⟩), .int .i64 0]) ∧ LgAt W0 w' l d D side used recs false L := by
  have hs := hH.sides
  have hh := hH.half
  have h6 := hH.six
  have hm := hH.most
  have hu4 : used ≤ 4096 := by have := hH.fit; omega
  have hlen := len_any W0 w d D L hA
  obtain ⟨n, hn⟩ : ∃ n, D.last.length = n := ⟨_, rfl⟩
  rw [hn] at hlen h6
  have hrd : (readM D 0).1 = bs (rootB side used) ∧ (readM D 0).2 = 0 := by
    have hr0 : refusedM D 0 = 0 := by unfold refusedM; rw [hup, if_neg (by decide), if_neg (by omega)]
    unfold readM
    rw [hr0]
    refine ⟨?_, rfl⟩
    show D.last.getD 0 [] = _
    rw [List.getD_eq_getElem?_getD, hH.root]; rfl
  obtain ⟨p1, p2, p3, p4, p5⟩ := root_parts side used hs hu4
  have hro := rootOf_any (rootB side used) (rootB_byts side used hs hu4) (rootB_length side used) p1 side used p2 p3 p4 p5 hs hu4
  rw [decide_eq_true rfl] at hro
  have hzl : (bs (rootB side used)).length = 64 := by rw [bs_length, rootB_length]
  have hz1 := bs_one (rootB side used)
  obtain ⟨zv, hzv⟩ : ∃ zv, bs (rootB side used) = zv := ⟨_, rfl⟩
  rw [hzv] at hrd hro hzl hz1
  have R1 := Lib.hid hrd.1
  have R2 := Lib.hid hrd.2
  have Hro := Lib.hid hro
  have HA := Lib.hid hA
  have HH := Lib.hid hH
  have Hup := Lib.hid hup
  have Hlen := Lib.hid hlen
  have hzz : zSec.toArray.size = zv.length := by rw [hzl]; rfl
  have Hzz := Lib.hid hzz
  have Hzl := Lib.hid hzl
  have his : (Try.prog.info? 55).map (·.size) = some zv.length := by rw [hzl]; exact info_sector
  have hbl := built_log d
  have hzs := zero_sector
  have hzr := zero_root
  have hn4 : n ≤ 4096 := by omega
  have hirt : (Try.prog.info? 59).map (·.size) = some [Value.int .i64 (side : Int), .int .i64 (used : Int)].length := info_root
  clear hA hup hH hlen hrd hro hzv hn hh p1 p2 p3 p4 p5 hzz hzl hm
  go_enter Try.func9, Try.ntmps9
  go_wp2_with fail
  refine Hlen.out.mono ?_
  rintro e w' ⟨rfl, rfl⟩
  go_wp2_with fail
  refine (read_any W0 w d D L 0 HA.out).mono ?_
  rintro e w2 ⟨rfl, hb2⟩
  rw [R1.out, R2.out]
  have HA2 := Lib.hid (HA.out.later hb2)
  clear hb2 HA
  go_wp2_with (refine wpList_store_dk rfl 55 (.tmp 4) (.tmp 15) rfl HA2.out zv w2.heap.size rfl rfl rfl Hzz.out his hz1 ?_)
  intro w3 hA3
  have cr : w3.rangeAt w2.heap.size 0 zv := by
    have := Own.range (h := hA3.own.only (List.mem_cons_self ..)) 0 zv.length
    rw [List.drop_zero, List.take_length] at this
    exact this
  have HA4 := Lib.hid hA3.log
  clear hA3 HA2
  go_wp2_with (first
    | (refine wpList_build rfl 61 _ rfl [(0, .pointer (some ⟨d, 0, none⟩))] rfl _ hbl ?_)
    | (refine wpList_load_mid rfl 55 (.tmp 4) rfl w2.heap.size 0 rfl zv _ (World.rangeAt_alloc cr _) Try.underlying55 rfl his ?_))
  refine (Hro.out _).mono ?_
  rintro e w5 ⟨rfl, hb5⟩
  have hA5 := HA4.out.later hb5
  have HA6 := Lib.hid (hA5.alloc (.cells #[.int .i64 (side : Int), .int .i64 (used : Int)] 59))
  have cr6 : (w5.alloc (.cells #[.int .i64 (side : Int), .int .i64 (used : Int)] 59)).rangeAt w5.heap.size 0 [Value.int .i64 (side : Int), .int .i64 (used : Int)] := by
    have := Own.range (h := ((Own.start w5).root side used)) 0 2
    exact this
  generalize w3.heap.size = l at *
  clear hb5 hA5 HA4 cr
  go_wp2_with (refine wpList_load_mid rfl 59 (.tmp 7) rfl w5.heap.size 0 rfl [.int .i64 (side : Int), .int .i64 (used : Int)] _ cr6 Try.underlying59 rfl hirt ?_)
  refine (load_any HA6.out Hup.out HH.out).mono ?_
  rintro e w7 ⟨rfl, hA7⟩
  have HA7 := Lib.hid (hA7.sub (List.sublist_cons_self _ _))
  clear hA7
  go_wp2_with fail
  go_ret2
  exact ⟨l, rfl, HA7.out⟩

set_option maxHeartbeats 3200000 in
set_option maxRecDepth 100000 in
theorem open_blank {W0 : Base} {w : World} {d n : Nat} {D : Dk} {L : List Rw} (hA : DkAt W0 w d D L) (hup : D.down = false) (hn : D.last = List.replicate n zSec) (h6 : 6 ≤ n) (hc : Clean D) (hst : D.steps ≤ 4611686018427000000) (he : (keepM D ((n - 2) / 2) 0 0 []).2 = 0) :
    Calls Try.prog 9 #[.pointer (some ⟨d, 0, none⟩)] w fun e w' => ∃ l, e = .returned (.tuple #[.pointer (some ⟨l, 0, none⟩), .int .i64 0]) ∧ LgAt W0 w' l d (keepM D ((n - 2) / 2) 0 0 []).1 0 0 [] false L := by
  have hln : D.last.length = n := by rw [hn, List.length_replicate]
  have hm := hA.ok.le
  rw [hln] at hm
  have hlen := len_any W0 w d D L hA
  rw [hln] at hlen
  have hrd : (readM D 0).1 = zSec ∧ (readM D 0).2 = 0 := by
    have hr0 : refusedM D 0 = 0 := by unfold refusedM; rw [hup, if_neg (by decide), if_neg (by omega)]
    unfold readM
    rw [hr0]
    refine ⟨?_, rfl⟩
    show D.last.getD 0 [] = _
    rw [List.getD_eq_getElem?_getD, hn, List.getElem?_replicate, if_pos (by omega)]; rfl
  obtain ⟨p1, p2, p3, p4, p5⟩ := z64_parts
  have hro := rootOf_any z64 z64_byts rfl p1 0 0 p2 p3 p4 p5 (by decide) (by decide)
  rw [decide_eq_false z64_no] at hro
  have hro : ∀ w, Calls Try.prog 22 #[.agg zSec.toArray] w fun e w' => e = .returned (.tuple #[.agg #[.int .i64 0, .int .i64 0], .bool false]) ∧ Below w.heap.size w w' := hro
  have hkl := keepM_len D hc hup hA.ok.left0 ((n - 2) / 2) 0 0 [] (by rw [hln]; exact h6) (by rw [hln]) (by decide) (Nat.zero_le _)
  have R1 := Lib.hid hrd.1
  have R2 := Lib.hid hrd.2
  have Hro := Lib.hid hro
  have HA := Lib.hid hA
  have Hup := Lib.hid hup
  have Hlen := Lib.hid hlen
  have Hln := Lib.hid hln
  have Hn := Lib.hid hn
  have Hc := Lib.hid hc
  have Hst := Lib.hid hst
  have He := Lib.hid he
  have Hkl := Lib.hid hkl
  have hz1 := zSec_sec.2
  have his : (Try.prog.info? 55).map (·.size) = some zSec.length := info_sector
  have hbl := built_log d
  have hbr := built_root0
  have hzs := zero_sector
  have hzr := zero_root
  have hirt : (Try.prog.info? 59).map (·.size) = some [Value.int .i64 0, .int .i64 0].length := info_root
  clear hA hup hn hc hst he hln hlen hrd hro hkl p1 p2 p3 p4 p5
  go_enter Try.func9, Try.ntmps9
  go_wp2_with fail
  refine Hlen.out.mono ?_
  rintro e w' ⟨rfl, rfl⟩
  go_wp2_with fail
  refine (read_any W0 w d D L 0 HA.out).mono ?_
  rintro e w2 ⟨rfl, hb2⟩
  rw [R1.out, R2.out]
  have HA2 := Lib.hid (HA.out.later hb2)
  clear hb2 HA
  go_wp2_with (refine wpList_store_dk rfl 55 (.tmp 4) (.tmp 15) rfl HA2.out zSec w2.heap.size rfl rfl rfl rfl his hz1 ?_)
  intro w3 hA3
  have cr : w3.rangeAt w2.heap.size 0 zSec := by
    have := Own.range (h := hA3.own.only (List.mem_cons_self ..)) 0 zSec.length
    rw [List.drop_zero, List.take_length] at this
    exact this
  have HA4 := Lib.hid hA3.log
  clear hA3 HA2
  go_wp2_with (first
    | (refine wpList_build rfl 61 _ rfl [(0, .pointer (some ⟨d, 0, none⟩))] rfl _ hbl ?_)
    | (refine wpList_load_mid rfl 55 (.tmp 4) rfl w2.heap.size 0 rfl zSec _ (World.rangeAt_alloc cr _) Try.underlying55 rfl his ?_))
  refine (Hro.out _).mono ?_
  rintro e w5 ⟨rfl, hb5⟩
  have hA5 := HA4.out.later hb5
  have HA6 := Lib.hid (hA5.alloc (.cells #[.int .i64 0, .int .i64 0] 59))
  generalize w3.heap.size = l at *
  clear hb5 hA5 HA4 cr
  go_wp2_with fail
  refine (blank_any HA6.out Hup.out Hn.out).mono ?_
  rintro e w7 ⟨rfl, hb7⟩
  have HA7 := Lib.hid (HA6.out.later hb7)
  clear hb7 HA6
  go_wp2_with (refine wpList_build rfl 59 #[] rfl [] rfl _ hbr ?_)
  refine (keep_dk HA7.out Hc.out Hup.out (by rw [Hln.out]; exact h6) 0 0 ((n - 2) / 2) none 0 [] (fun h => absurd h (by decide)) (fun s hs => by cases hs) (by decide) (by rw [Hln.out]) (Nat.zero_le _) Hst.out).mono ?_
  rintro e w8 ⟨rfl, hA8⟩
  have hA9 : DkAt W0 w8 d (keepM D ((n - 2) / 2) 0 0 []).1 (rowLog l d 0 0 (.slice none 0 0) false :: L) := by
    rw [keptRow, if_pos He.out] at hA8
    exact hA8.sub (.cons_cons _ (.cons _ (List.Sublist.refl _)))
  have HF := Lib.hid (LgAt.fresh hA9 (by rw [Hkl.out, Hln.out]; exact h6))
  rw [He.out]
  clear hA8 hA9 HA7
  go_wp2_with fail
  go_ret2
  exact ⟨l, rfl, HF.out⟩
end Go.Proofs.Ytpebpchnkhbcfaa
