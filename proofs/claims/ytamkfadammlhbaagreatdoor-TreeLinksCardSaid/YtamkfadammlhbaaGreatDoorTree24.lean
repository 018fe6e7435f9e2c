/- do, against the plain state. -/
import Derived.Test.YtamkfadammlhbaaGreatDoorTree23
namespace Go.Proofs.YtamkfadammlhbaaGreatDoor
open Go.RowKit
open Go.ChangeMaps (setBlock)
set_option linter.unusedVariables false
set_option linter.unusedSimpArgs false
set_option maxRecDepth 100000

set_option maxHeartbeats 2000000 in
theorem do_step {w0 w : World} {S : Blocks} {L : List Rw} {t : Nat} {T : Tr} {E E' : Et} (hO : Own ⟨w0, S⟩ w L) (H : Tree S (Pc L) t T) (hR : Rep T E) (hm : Mx w) (κ : Int) (p q : ByteArray) (hp : p.size ≤ maxLen) (hq : q.size ≤ maxLen) {va : Option Addr} {vc : Nat} {zs : List Int} (hv : Byo w0 S (t :: T.foot) L (.slice va zs.length vc) zs)
    (hn1 : 1 ≤ T.next) (hn2 : T.next ≤ 1000000000) (hE : doE E ⟨κ, p.data.toList, q.data.toList, zs⟩ = some E') :
    Calls Tryz.prog 34 #[.pointer (some ⟨t, 0, none⟩), .agg (opL κ p q (.slice va zs.length vc)).toArray] w (DoL w0 S L t T w (fun T' => Rep T' E') (.int .i64 0)) := by
  have hd := H.good.keys
  unfold doE at hE
  simp only at hE
  split at hE
  rotate_left
  · cases hE
  rename_i hlen
  have hl2 : zs.length ≤ 140737488355328 := by omega
  split at hE
  rotate_left
  · cases hE
  rename_i j en z hpl
  obtain ⟨nd, k, hc, ha, her⟩ := hR.place hd hpl
  have hkids : nd.kids = en.kids := congrArg ENd.kids her
  split at hE
  · rename_i hx
    rw [← hkids] at hx
    split at hE
    · rename_i h0
      subst h0
      injection hE with hE
      subst hE
      exact do_grow0 hO H hm p q hp hlen hc ha hx fun S' w' h1 h2 _ _ => (growDir_any h1 h2 ha.there ha.dir (toB z) p q _ ⟨_, _, _, rfl⟩ hn1 hn2).mono fun e w2 hd2 => hd2.imp fun T' ⟨n, e1, e2⟩ => by
        rw [e2, ← her]; exact hR.mkdir hd (toB z) e1
    · split at hE
      rotate_left
      · cases hE
      rename_i h0
      subst h0
      injection hE with hE
      subst hE
      exact do_grow2 hO H hm p q hp hlen hc ha hx fun S' w' h1 h2 hss _ => (growFile_any h1 h2 ha.there ha.dir (toB z) p q _ zs (hv.mono hss (fun _ _ _ h => h) (fun _ h => h)) hl2 hn1 hn2).mono fun e w2 hd2 => hd2.imp fun T' ⟨n, e1, e2⟩ => by
        rw [e2, ← her]; exact hR.create hd (toB z) e1
  · rename_i i hx
    rw [← hkids] at hx
    split at hE
    · cases hE
    rename_i ef hef
    split at hE
    rotate_left
    · cases hE
    rename_i hf
    obtain ⟨f, g, hfe⟩ := hR.file hd hef hf.1 (by omega) hf.2.2
    have hp1 : 1 ≤ f.places := by
      have : f.places = ef.places := congrArg ENd.places hfe
      omega
    split at hE
    · rename_i h0
      subst h0
      injection hE with hE
      subst hE
      exact do_turn3 hO H hm p q hp hlen hc ha hx g fun S' w' h1 h2 hss _ => (turn_write h1 h2 g p q _ zs (hv.mono hss (fun _ _ _ h => h) (fun _ h => h)) hl2).mono fun e w2 hd2 => hd2.imp fun T' ⟨f2, e1, e2⟩ => by
        rw [e2]; exact hR.write hd i (by rw [e1, hfe])
    · split at hE
      · rename_i h0
        subst h0
        injection hE with hE
        subst hE
        exact do_turn6 hO H hm p q hp hlen hc ha hx g fun S' w' h1 h2 _ _ => (turn_unlink h1 h2 ha hx g p q _ ⟨_, _, _, rfl⟩).mono fun e w2 hd2 => hd2.imp fun T' e1 => by
          rw [e1]; exact hR.take hd j (toB z)
      · split at hE
        rotate_left
        · cases hE
        rename_i jb enb zb hplb
        obtain ⟨ndb, kb, hcb, hab, herb⟩ := hR.place hd hplb
        have hkidsb : ndb.kids = enb.kids := congrArg ENd.kids herb
        split at hE
        · rename_i h0
          subst h0
          split at hE
          rotate_left
          · cases hE
          rename_i hxb
          rw [← hkidsb] at hxb
          injection hE with hE
          subst hE
          exact do_turn4 hO H hm p q hp hlen hc ha hx g fun S' w' h1 h2 _ hm2 => (turn_link h1 h2 hm2 p q hq _ ⟨_, _, _, rfl⟩ hcb fun S3 w3 h3 h4 => link_ok h3 h4 hab.there hab.dir (toB zb) hxb g.there g.file g.low g.high).mono fun e w2 hd2 => hd2.imp fun T' e1 => by
            rw [e1, ← putTx_of (toB zb) hab.there g.there]; exact hR.put hd jb (toB zb) i
        · split at hE
          rotate_left
          · cases hE
          rename_i h0
          subst h0
          split at hE
          · rename_i hxb
            rw [← hkidsb] at hxb
            injection hE with hE
            subst hE
            exact do_turn5 hO H hm p q hp hlen hc ha hx g fun S' w' h1 h2 _ hm2 => (turn_rename h1 h2 hm2 p q hq _ ⟨_, _, _, rfl⟩ hcb fun S3 w3 h3 h4 => rename_free h3 h4 ha hab hx g hp1 hxb).mono fun e w2 hd2 => hd2.imp fun T' e1 => by
              rw [e1]; exact (hR.take hd j (toB z)).put (takeTx_nodup hd j (toB z)) jb (toB zb) i
          · rename_i old hxb
            rw [← hkidsb] at hxb
            split at hE
            · cases hE
            rename_i efo hefo
            split at hE
            rotate_left
            · cases hE
            rename_i hfo
            obtain ⟨fo, go, hfoe⟩ := hR.file hd hefo hfo.1 hfo.2.1 hfo.2.2
            split at hE
            · rename_i heq
              injection hE with hE
              subst hE
              exact do_turn5 hO H hm p q hp hlen hc ha hx g fun S' w' h1 h2 _ hm2 => (turn_rename h1 h2 hm2 p q hq _ ⟨_, _, _, rfl⟩ hcb fun S3 w3 h3 h4 => rename_still h3 h4 hab hxb go.there (.inr ⟨by rw [go.file]; rfl, heq, rfl⟩)).mono fun e w2 hd2 => hd2.imp fun T' e1 => by
                rw [e1]; exact hR
            · rename_i hne
              injection hE with hE
              subst hE
              exact do_turn5 hO H hm p q hp hlen hc ha hx g fun S' w' h1 h2 _ hm2 => (turn_rename h1 h2 hm2 p q hq _ ⟨_, _, _, rfl⟩ hcb fun S3 w3 h3 h4 => rename_over h3 h4 ha hab hx g hp1 hxb go hne).mono fun e w2 hd2 => hd2.imp fun T' e1 => by
                rw [e1]; exact ((hR.take hd jb (toB zb)).take (takeTx_nodup hd jb (toB zb)) j (toB z)).put (takeTx_nodup (takeTx_nodup hd jb (toB zb)) j (toB z)) jb (toB zb) i
end Go.Proofs.YtamkfadammlhbaaGreatDoor
