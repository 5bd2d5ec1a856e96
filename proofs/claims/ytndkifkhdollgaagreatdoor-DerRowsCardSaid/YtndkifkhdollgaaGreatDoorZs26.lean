import Derived.Test.YtndkifkhdollgaaGreatDoorZs25
import Derived.Deep.RegionWith
set_option linter.unusedVariables false
set_option linter.unusedSimpArgs false
set_option maxRecDepth 100000
set_option maxHeartbeats 4000000
namespace Go.Proofs.YtndkifkhdollgaaGreatDoor
open Lib (hid)
open Go.RowKit
theorem ownsRow_but {w W:World} {base b:Nat} {e:TypeId} {size:Nat} {v:Value} {n:Nat} {xs:List Value} (h:w.ownsRow base e size v n xs) (hW:w.grownBy W (some b)) (hb:b<base):W.ownsRow base e size v n xs:=by
 refine ⟨h.1,?_⟩
 rcases h.2 with h1|⟨g,cap,cur,h1,h2,h3,h4⟩
 ·exact .inl h1
 ·exact .inr ⟨g,cap,cur,h1,h2,(hW.block g (blk_lt h3) (by simp;omega)).trans h3,h4⟩
theorem grown_row2 (w:World) (b:Nat) (v u:Value):w.grownBy ((w.setCell ⟨b,0,none⟩ v).setCell ⟨b,1,none⟩ u) (some b):=grown_set (p:=⟨b,1,none⟩) (grown_set (p:=⟨b,0,none⟩) (grown_refl _ _) (.inr rfl) _) (.inr rfl) _
theorem own_any (t:Int) (v:Value) (l:List Nat) (w:World) (hB:Bytes w v l) (h0:Whole0 v) (hl:l.length≤1099511620000) :
  Calls Tryz.prog 106 #[.agg #[.int .i64 t,v]] w fun e w'=>∃ u,e=.returned (.agg #[.int .i64 t,u])∧FrW w w' u l∧∃ a c,u=.slice a l.length c:=by
 have HB:=hid hB
 have H0:=hid h0
 obtain ⟨_,va,vsb,vso,vc,rfl,_⟩:=hB
 obtain ⟨n,hn⟩:∃ n,n=l.length:=⟨_,rfl⟩
 have HN:=hid hn
 rw[←hn] at HB H0 hl ⊢
 obtain ⟨w2,hw2⟩:∃ w2,w2=(w.alloc (.cells #[.int .i64 t,.slice va n vc] 105)).alloc (.cells #[.int .i64 0,.slice none 0 0] 105):=⟨_,rfl⟩
 have G2:Hid (w.grownBy w2 none):=hid (by rw[hw2];exact grown_alloc (World.grownBy_alloc _ _ _) _)
 have hbx:w2.heap[w.heap.size]?=some (.cells #[.int .i64 t,.slice va n vc] 105 (0,0)):=by rw[hw2];exact alloc2_old _ _ _
 have hbr:w2.heap[w.heap.size+1]?=some (.cells #[.int .i64 0,.slice none 0 0] 105 (0,0)):=by rw[hw2];exact alloc2_new _ _ _
 obtain ⟨g,hg⟩:∃ g,g=w.heap.size:=⟨_,rfl⟩
 rw[←hg] at hbx hbr
 have HBx:Hid (∀ W,w2.grownBy W none→W.cell? ⟨g,0,none⟩=some (.int .i64 t)∧W.cell? ⟨g,1,none⟩=some (.slice va n vc)∧W.heap[g+1]?=some (.cells #[.int .i64 0,.slice none 0 0] 105 (0,0))):=hid (fun W hW=>by
  have hbW:=(hW.block _ (blk_lt hbx) (by simp)).trans hbx
  exact ⟨cell_blk hbW 0 rfl,cell_blk hbW 1 rfl,(hW.block _ (blk_lt hbr) (by simp)).trans hbr⟩)
 have HW2:=hid hw2
 have HG:=hid hg
 have HGl:=hid (show w.heap.size≤g+1 by omega)
 have HG2:=hid (show g+1<w2.heap.size from blk_lt hbr)
 obtain ⟨s0,s1,s2⟩:=HBx.out w2 (grown_refl _ _)
 have HCl:=hid (fun W (hW:w2.grownBy W none)=>clone_any _ l W (HB.out.grown (grown_trans G2.out hW)) H0.out (by rw[←HN.out];exact hl))
 clear h0 hn hw2 hg hbx hbr s2
 have HE1:Hid (∀ (w3:World) (a3:Option Addr) (c3:Nat),w3.heap[g+1]?=some (.cells #[.int .i64 0,.slice none 0 0] 105 (0,0))→∀ (tmps:Array Value),tmps.getD 2 undef=.pointer (some ⟨g+1,0,none⟩) →
   (results Tryz.f106 tmps).run Tryz.prog ((w3.setCell ⟨g+1,0,none⟩ (.int .i64 t)).setCell ⟨g+1,1,none⟩ (.slice a3 l.length c3))=.ok (.agg #[.int .i64 t,.slice a3 l.length c3]) ((w3.setCell ⟨g+1,0,none⟩ (.int .i64 t)).setCell ⟨g+1,1,none⟩ (.slice a3 l.length c3))):=hid (fun w3 a3 c3 K2 tmps h2 =>
  results_cell_row Tryz.results106 _ _ (g+1) _ _ (0,0) _ h2 (set2_heap K2 _ _) Tryz.underlying105 rfl elI)
 have HE2:Hid (∀ (w3:World) (a3:Option Addr) (c3:Nat),w2.grownBy w3 none→w3.ownsRow w2.heap.size 5 1 (.slice a3 l.length c3) l.length (cellsL l) →
   FrW w ((w3.setCell ⟨g+1,0,none⟩ (.int .i64 t)).setCell ⟨g+1,1,none⟩ (.slice a3 l.length c3)) (.slice a3 l.length c3) l):=hid (fun w3 a3 c3 G3 F3 =>
  ⟨grown_set2 (grown_trans G2.out G3) HGl.out _ _,ownsRow_low (ownsRow_but F3 (grown_row2 _ _ _ _) HG2.out) G2.out.size⟩)
 go_enter Tryz.func106,Tryz.ntmps106
 go_wp2
 rw[←HW2.out,←HG.out]
 go_region_with (go_at_call 71;refine (HCl.out _ (grown_drew (grown_refl _ _))).mono ?_;rintro e w3 ⟨u,rfl,hF3,a3,c3,rfl⟩;have G3:=hid (grown_trans (grown_drew (grown_refl w2 none)) hF3.grown);have F3:=hid hF3.own;obtain ⟨k0,k1,k2⟩:=HBx.out w3 G3.out;have c30:=cell_blk k2 0 rfl;have c31:=cell_blk k2 1 rfl;have f30:=free_blk k2 0;have f31:=free_blk k2 1;have K2:=hid k2;clear hF3 k2)
 all_goals (
  go_wp2
  exact bodyPost_ret (HE1.out _ _ _ K2.out _ (by rfl)) rfl ⟨_,rfl,HE2.out _ _ _ G3.out F3.out,_,_,by rw[HN.out]⟩)
end Go.Proofs.YtndkifkhdollgaaGreatDoor
