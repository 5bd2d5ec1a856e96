import Derived.Test.YtndkifkhdollgaaGreatDoorZr08
import Derived.Test.YtndkifkhdollgaaGreatDoorZr12
import Derived.Test.YtndkifkhdollgaaGreatDoorZr21
import Derived.Test.YtndkifkhdollgaaGreatDoorZr27
import Derived.Test.YtndkifkhdollgaaGreatDoorZr35
import Derived.Test.YtndkifkhdollgaaGreatDoorZr39
import Derived.Test.YtndkifkhdollgaaGreatDoorZr40
import Derived.Test.YtndkifkhdollgaaGreatDoorZr47
set_option linter.unusedVariables false
set_option linter.unusedSimpArgs false
set_option maxRecDepth 100000
set_option maxHeartbeats 2000000
namespace Go.Proofs.YtndkifkhdollgaaGreatDoor
open Lib (hid)
open Go.RowKit
section
variable {A:Nat→Addr} {W0 w:World} {F:Nat→Prop} {b:Nat} {s:De.Rd}
theorem got_fin2 (h:PrR A W0 F b s w) {oa oc:Obj} {W2 w3 w4:World} {D:Array Value} {k tag least most:Int} {u:Value} (hW:W2=(w.alloc oa).alloc oc) (hu3:Upto F W2 w3) (hr3:PrR A W0 (Ext F W2 w3) b (De.ask s k tag least most).1 w3) (h4:w4=w3.setRow (w.heap.size+1) D)
  (hu:∃ a c,u=.agg #[.int .i64 0,.int .i64 (De.ask s k tag least most).2.n,.bool (De.ask s k tag least most).2.is,.slice a (De.ask s k tag least most).2.b.length c,.string (strOf (De.ask s k tag least most).2.t)]∧Sup (fun j=>W2.heap.size≤j∧j<w3.heap.size) w3 (fun X=>Bytes X (.slice a (De.ask s k tag least most).2.b.length c) (De.ask s k tag least most).2.b∧Whole0 (.slice a (De.ask s k tag least most).2.b.length c))) :
  GotPost A W0 F b s k tag least most w w4 u:=by
 have hga:w.grownBy W2 none:=by rw[hW];exact grown_alloc (World.grownBy_alloc _ _ _) _
 have hs2:W2.heap.size=w.heap.size+2:=by rw[hW,alloc2_size]
 have hsz:w4.heap.size=w3.heap.size:=by rw[h4];simp
 have hq:=hu3.size
 have hub:Upto (fun j=>j=w.heap.size+1) w3 w4:=by
  rw[h4]
  exact Upto.of_row (row:=some (w.heap.size+1)) (grown_setRow_at _ _ _) (fun j hj=>.inl (Option.some.inj hj).symm)
 have hap:Apart (fun j=>j=w.heap.size+1) (Ext F W2 w3):=fun j hj hf=>by
  rcases hf with hf|hf
  ·have:=(h.own j hf).2;omega
  ·omega
 have hr:=hr3.other (G:=fun j=>j=w.heap.size+1) (G':=fun j=>j=w.heap.size+1) (fun j hj=>by have:=h.base.size;omega) ⟨hub,fun _ _ h=>h⟩ hap
 refine ⟨?_,hr.wide (fun j hj=>?_) (ext_own h.base h.own (by have:=hga.size;omega)),?_⟩
 ·refine ((Upto.of_grown F hga).trans hu3 (fun _ _ h=>h)).trans hub (fun j hj hf=>?_)
  omega
 ·rcases hj with hj|hj
  ·exact .inl hj
  ·exact .inr ⟨by omega,by omega⟩
 ·obtain ⟨a,c,e,hs⟩:=hu
  refine ⟨a,c,e,(hs.upto hub (fun j hj e=>by omega)).mono (fun j hj=>⟨by omega,by omega⟩) (fun j hj=>hj.2)⟩
end
theorem ask_1 (s:De.Rd) (tag least most:Int):De.ask s 1 tag least most=((De.enter s tag).1,{ De.none0 with is:=(De.enter s tag).2 }):=by
 unfold De.ask
 by_cases he:s.e=0
 ·rw[if_neg (by omega),if_pos rfl]
 ·rw[if_pos he]
  have:De.enter s tag=(s,false):=by unfold De.enter;rw[if_pos he]
  rw[this];rfl
theorem ask_2 (s:De.Rd) (tag least most:Int):De.ask s 2 tag least most=(De.leave s,De.none0):=by
 unfold De.ask
 by_cases he:s.e=0
 ·rw[if_neg (by omega),if_neg (by decide),if_pos rfl]
 ·rw[if_pos he]
  have:De.leave s=s:=by unfold De.leave;rw[if_pos he]
  rw[this]
theorem lget_Enter {A:Nat→Addr} {W0 w:World} {F:Nat→Prop} {b:Nat} {s:De.Rd} (h:PrR A W0 F b s w) (hA:AllErrs W0 A) (tag least most:Int) :
  Calls Tryz.prog 20 #[.pointer (some ⟨b,0,none⟩),.agg #[.int .i64 1,.int .i64 tag,.int .i64 least,.int .i64 most]] w fun e w'=>∃ v,e=.returned v∧GotPost A W0 F b s 1 tag least most w w' v:=by
 obtain ⟨W2,hW2⟩:∃ W2,W2=(w.alloc (.cells #[.int .i64 1,.int .i64 tag,.int .i64 least,.int .i64 most] 31)).alloc (.cells #[.int .i64 0,.int .i64 0,.bool false,.slice none 0 0,.string ⟨#[]⟩] 41):=⟨_,rfl⟩
 have hga:w.grownBy W2 none:=by rw[hW2];exact grown_alloc (World.grownBy_alloc _ _ _) _
 have b0:W2.heap[w.heap.size]?=some (.cells #[.int .i64 1,.int .i64 tag,.int .i64 least,.int .i64 most] 31 (0,0)):=by rw[hW2];exact alloc2_old _ _ _
 have b1:W2.heap[w.heap.size+1]?=some (.cells #[.int .i64 0,.int .i64 0,.bool false,.slice none 0 0,.string ⟨#[]⟩] 41 (0,0)):=by rw[hW2];exact alloc2_new _ _ _
 have hs2:W2.heap.size=w.heap.size+2:=by rw[hW2,alloc2_size]
 have c0:=cell_blk b0 0 rfl
 have c1:=cell_blk b0 1 rfl
 have h2:=h.still hga
 have HN:Hid (Calls Tryz.prog 52 #[.pointer (some ⟨b,0,none⟩),.int .i64 tag] W2 fun e w'=>e=.returned (.bool (De.enter s tag).2)∧Upto F W2 w'∧PrR A W0 (Ext F W2 w') b (De.ask s 1 tag least most).1 w'∧w'.heap[w.heap.size+1]?=some (.cells #[.int .i64 0,.int .i64 0,.bool false,.slice none 0 0,.string ⟨#[]⟩] 41 (0,0))):=hid ((prEnter_any h2 hA tag).mono (fun e w' hh=>by
  obtain ⟨q1,q2,q3⟩:=hh
  refine ⟨q3,q1,by rw[ask_1];exact q2,?_⟩
  rw[q1.block _ (by omega) (fun hf=>by have:=(h.own _ hf).2;omega)];exact b1))
 have HX:=hid h
 have HW2:=hid hW2
 have HI5:Hid ((Tryz.prog.info? 41).map (·.size)=some 5):=hid (by kernel_rfl)
 obtain ⟨q1,hq1⟩:∃ q1,q1=(De.enter s tag).2:=⟨_,rfl⟩
 have HQ1:=hid hq1
 rw[←hq1] at HN
 clear h hA hga hs2 h2 b0 b1 hq1
 go_enter Tryz.func20,Tryz.ntmps20
 go_wp2_with (first
  |(go_at_call 52;rw[←HW2.out];refine HN.out.mono ?_;rintro e w3 ⟨rfl,p1,p2,hb3⟩;have P1:=hid p1;have P2:=hid p2;have HB3:=hid hb3;clear p1 p2 hb3)
  |(refine wpList_store_row (by rfl) 41 (.tmp 4) (.tmp 13) (by rfl) (w.heap.size+1) #[.int .i64 0,.int .i64 0,.bool q1,.slice none 0 0,.string ⟨#[]⟩] (by rfl) (by rfl) _ _ HB3.out HI5.out rfl (one5 _ _ _ _ _ _ _) ?_;obtain ⟨w4,hw4⟩:∃ w4,w4=w3.setRow (w.heap.size+1) #[.int .i64 0,.int .i64 0,.bool q1,.slice none 0 0,.string ⟨#[]⟩]:=⟨_,rfl⟩;rw[←hw4];have hb4:w4.heap[w.heap.size+1]?=some (.cells #[.int .i64 0,.int .i64 0,.bool q1,.slice none 0 0,.string ⟨#[]⟩] 41 (0,0)):=(by rw[hw4];exact setRow_heap _ _ _ _ _ _ HB3.out);have HW4:=hid hw4;have HB4:=hid hb4;clear hw4 hb4))
 refine bodyPost_ret (v:=.agg #[.int .i64 0,.int .i64 0,.bool q1,.slice none 0 0,.string ⟨#[]⟩]) ?_ rfl ⟨_,rfl,got_fin2 HX.out HW2.out P1.out P2.out HW4.out ?_⟩
 ·exact results_cell_row Tryz.results20 _ _ (w.heap.size+1) _ _ (0,0) _ rfl HB4.out Tryz.underlying41 rfl HI5.out
 exact ⟨none,0,by rw[ask_1,←HQ1.out];rfl,by rw[ask_1];exact sup_nil _ _⟩
theorem lget_Leave {A:Nat→Addr} {W0 w:World} {F:Nat→Prop} {b:Nat} {s:De.Rd} (h:PrR A W0 F b s w) (hA:AllErrs W0 A) (tag least most:Int) :
  Calls Tryz.prog 20 #[.pointer (some ⟨b,0,none⟩),.agg #[.int .i64 2,.int .i64 tag,.int .i64 least,.int .i64 most]] w fun e w'=>∃ v,e=.returned v∧GotPost A W0 F b s 2 tag least most w w' v:=by
 obtain ⟨W2,hW2⟩:∃ W2,W2=(w.alloc (.cells #[.int .i64 2,.int .i64 tag,.int .i64 least,.int .i64 most] 31)).alloc (.cells #[.int .i64 0,.int .i64 0,.bool false,.slice none 0 0,.string ⟨#[]⟩] 41):=⟨_,rfl⟩
 have hga:w.grownBy W2 none:=by rw[hW2];exact grown_alloc (World.grownBy_alloc _ _ _) _
 have b0:W2.heap[w.heap.size]?=some (.cells #[.int .i64 2,.int .i64 tag,.int .i64 least,.int .i64 most] 31 (0,0)):=by rw[hW2];exact alloc2_old _ _ _
 have b1:W2.heap[w.heap.size+1]?=some (.cells #[.int .i64 0,.int .i64 0,.bool false,.slice none 0 0,.string ⟨#[]⟩] 41 (0,0)):=by rw[hW2];exact alloc2_new _ _ _
 have hs2:W2.heap.size=w.heap.size+2:=by rw[hW2,alloc2_size]
 have c0:=cell_blk b0 0 rfl
 have c1:=cell_blk b0 1 rfl
 have h2:=h.still hga
 have HN:Hid (Calls Tryz.prog 56 #[.pointer (some ⟨b,0,none⟩)] W2 fun e w'=>e=.returned (.tuple #[])∧Upto F W2 w'∧PrR A W0 (Ext F W2 w') b (De.ask s 2 tag least most).1 w'∧w'.heap[w.heap.size+1]?=some (.cells #[.int .i64 0,.int .i64 0,.bool false,.slice none 0 0,.string ⟨#[]⟩] 41 (0,0))):=hid ((prLeave_any h2 hA).mono (fun e w' hh=>by
  obtain ⟨q3,q1,q2⟩:=hh
  refine ⟨q3,q1,by rw[ask_2];exact q2,?_⟩
  rw[q1.block _ (by omega) (fun hf=>by have:=(h.own _ hf).2;omega)];exact b1))
 have HX:=hid h
 have HW2:=hid hW2
 have HI5:Hid ((Tryz.prog.info? 41).map (·.size)=some 5):=hid (by kernel_rfl)
 obtain ⟨q1,hq1⟩:∃ q1,q1=(De.enter s tag).2:=⟨_,rfl⟩
 have HQ1:=hid hq1
 clear c1
 clear h hA hga hs2 h2 b0 b1 hq1
 go_enter Tryz.func20,Tryz.ntmps20
 go_wp2_with (first
  |(go_at_call 56;rw[←HW2.out];refine HN.out.mono ?_;rintro e w3 ⟨rfl,p1,p2,hb3⟩;have P1:=hid p1;have P2:=hid p2;have HB3:=hid hb3;clear p1 p2 hb3)
  |(refine wpList_store_row (by rfl) 41 (.tmp 4) (.tmp 18) (by rfl) (w.heap.size+1) #[.int .i64 0,.int .i64 0,.bool false,.slice none 0 0,.string ⟨#[]⟩] (by rfl) (by rfl) _ _ HB3.out HI5.out rfl (one5 _ _ _ _ _ _ _) ?_;obtain ⟨w4,hw4⟩:∃ w4,w4=w3.setRow (w.heap.size+1) #[.int .i64 0,.int .i64 0,.bool false,.slice none 0 0,.string ⟨#[]⟩]:=⟨_,rfl⟩;rw[←hw4];have hb4:w4.heap[w.heap.size+1]?=some (.cells #[.int .i64 0,.int .i64 0,.bool false,.slice none 0 0,.string ⟨#[]⟩] 41 (0,0)):=(by rw[hw4];exact setRow_heap _ _ _ _ _ _ HB3.out);have HW4:=hid hw4;have HB4:=hid hb4;clear hw4 hb4))
 refine bodyPost_ret (v:=.agg #[.int .i64 0,.int .i64 0,.bool false,.slice none 0 0,.string ⟨#[]⟩]) ?_ rfl ⟨_,rfl,got_fin2 HX.out HW2.out P1.out P2.out HW4.out ?_⟩
 ·exact results_cell_row Tryz.results20 _ _ (w.heap.size+1) _ _ (0,0) _ rfl HB4.out Tryz.underlying41 rfl HI5.out
 exact ⟨none,0,by rw[ask_2];rfl,by rw[ask_2];exact sup_nil _ _⟩
def rawR (w:World) (t:Nat) (l:List Nat):Except Nat (World→Value→Prop):=if Tl.known (t:Nat)=false then .error 5 else if 65530<l.length then .error 3 else .ok (fun W v=>Sup (fun k=>w.heap.size≤k∧k<W.heap.size) W (fun X=>Bytes X v (Tl.elem t l)∧Whole0 v))
theorem raw_weak {w W1:World} {t:Nat} (hs:w.heap.size≤W1.heap.size):∀ l,match rawR W1 t l with
  |.error k=>rawR w t l=.error k
  |.ok V=>∃ V2,rawR w t l=.ok V2∧∀ W v,V W v→V2 W v:=fun l=>by
 by_cases h1:Tl.known (t:Nat)=false
 ·have e:∀ u:World,rawR u t l=.error 5:=fun u=>by unfold rawR;rw[if_pos h1]
  rw[e,e]
 ·by_cases h2:65530<l.length
  ·have e:∀ u:World,rawR u t l=.error 3:=fun u=>by unfold rawR;rw[if_neg h1,if_pos h2]
   rw[e,e]
  ·have e:∀ u:World,rawR u t l=.ok (fun W v=>Sup (fun k=>u.heap.size≤k∧k<W.heap.size) W (fun X=>Bytes X v (Tl.elem t l)∧Whole0 v)):=fun u=>by unfold rawR;rw[if_neg h1,if_neg h2]
   rw[e,e]
   refine ⟨_,rfl,fun W v hv=>?_⟩
   have hv:Sup (fun k=>W1.heap.size≤k∧k<W.heap.size) W (fun X=>Bytes X v (Tl.elem t l)∧Whole0 v):=hv
   exact hv.mono (fun k hk=>⟨Nat.le_trans hs hk.1,hk.2⟩) (fun k hk=>hk.2)
theorem rawClo_any (A:Nat→Addr) (l:List Nat) (a:Option Addr) (c x1 t:Nat) (ht:t<256) (w:World) (h1:w.cell? ⟨x1,0,none⟩=some (.int .i64 (t:Nat))) (h8:∀ x∈l,x<256) (hl:l.length≤65530) (hB:Bytes w (.slice a l.length c) l) (h0:Whole0 (.slice a l.length c)) (hE:AllErrs w A) :
  Calls Tryz.prog 121 #[.slice a l.length c,.pointer (some ⟨x1,0,none⟩)] w fun e w'=>GetPost A w w' (rawR w t l) e:=by
 have HP:=hid ((tput_any A (t:Nat) (.slice a l.length c) l w hB h0 (by omega) hE).mono (fun e w' hp=>(show ∃ u x,e=.returned (.tuple #[u,x])∧GetPost A w w' (rawR w t l) (.returned (.tuple #[u,x])) from by
  obtain ⟨hp,hg⟩:=hp
  unfold PutPost at hp
  unfold rawR
  by_cases hk:Tl.known (t:Nat)=false
  ·rw[if_pos hk] at hp
   rw[if_pos hk]
   exact ⟨_,_,hp,hg,_,rfl⟩
  ·rw[if_neg hk] at hp
   rw[if_neg hk]
   rw[if_neg (by omega)] at hp
   rw[if_neg (by omega)]
   obtain ⟨u,he,hf⟩:=hp
   exact ⟨_,_,he,hg,_,rfl,hf.sup (elem_lt256 (by omega) h8)⟩)))
 generalize rawR w t l=R at *
 generalize l.length=n at *
 clear hB h0 hE hl
 go_enter Tryz.func121,Tryz.ntmps121
 go_wp2_with (go_at_call 122;refine HP.out.mono ?_;rintro e w2 ⟨u,x,rfl,hg2⟩;have HG2:=hid hg2;clear hg2)
 go_returns
 exact HG2.out
theorem rrRaw_any {A:Nat→Addr} {W0 w:World} {F:Nat→Prop} {b:Nat} {s:De.Rd} (h:PrR A W0 F b s w) (hE:AllErrs W0 A) (hp:De.peek s<256) :
  Calls Tryz.prog 67 #[.pointer (some ⟨b,0,none⟩)] w fun e w'=>∃ v,e=.returned v∧PrROut A W0 F b w w' (.slice none 0 0) (readP s (De.peek s:Nat) (rawR w (De.peek s))) e:=by
 have HPk:=hid (prPeek_any h)
 obtain ⟨t,ht⟩:∃ t,t=De.peek s:=⟨_,rfl⟩
 rw[←ht] at HPk hp ⊢
 obtain ⟨W1,hW1⟩:∃ W1,W1=w.alloc (.cells #[.int .i64 (t:Nat)] 3):=⟨_,rfl⟩
 have hga:w.grownBy W1 none:=by rw[hW1];exact World.grownBy_alloc _ _ _
 have cx1:W1.cell? ⟨w.heap.size,0,none⟩=some (.int .i64 (t:Nat)):=by rw[hW1];exact cell_blk (alloc_at _ _) 0 rfl
 have hmf:=mkFn
 have hbs:b<W1.heap.size:=Nat.lt_of_lt_of_le (h.own b h.mem).2 hga.size
 have HR:=hid ((prRead_bytes (h.grow hga) hE (t:Nat) 121 #[.pointer (some ⟨w.heap.size,0,none⟩)] (rawR W1 t)
  (fun l k hk=>by
   unfold rawR at hk
   split at hk
   ·have:=Except.error.inj hk;omega
   ·split at hk
    ·have:=Except.error.inj hk;omega
    ·exact absurd hk (by simp))
  (fun l V hV w2 v x hg hv=>by
   unfold rawR at hV
   split at hV
   ·exact absurd hV (by simp)
   ·split at hV
    ·exact absurd hV (by simp)
    ·obtain rfl:=Except.ok.inj hV
     have hsz:(w2.setCell ⟨b,0,none⟩ x).heap.size=w2.heap.size:=setCell_size _ _ _
     have hv:Sup (fun k=>W1.heap.size≤k∧k<w2.heap.size) w2 (fun X=>Bytes X v (Tl.elem t l)∧Whole0 v):=hv
     show Sup (fun k=>W1.heap.size≤k∧k<(w2.setCell ⟨b,0,none⟩ x).heap.size) (w2.setCell ⟨b,0,none⟩ x) _
     rw[hsz]
     exact hv.kept ⟨by rw[hsz];exact Nat.le_refl _,fun k hk=>Below.heap_setCell _ _ _ _ (fun e=>by have:k=b:=e;omega)⟩)
  (enters_any Tryz.func121 rfl rfl)
  (fun l a c h8 hl _ hB h0=>rawClo_any A l a c _ t hp W1 cx1 h8 hl hB h0 (hE.grown (grown_join h.base hga)))).mono (fun e w' hp=>prROut_weak (r2:=rawR w t) (raw_weak hga.size) (h.afterO hga hp)))
 have HW1:Hid (w.alloc (.cells #[.int .i64 (t:Nat)] 3)=W1):=hid hW1.symm
 generalize readP s (t:Nat) (rawR w t)=p at *
 clear h hE hW1 hga cx1 hbs ht hp
 go_enter Tryz.func67,Tryz.ntmps67
 go_wp2_with (first
  |(go_at_call 14;refine HPk.out.mono ?_;rintro e w3 ⟨rfl,rfl⟩)
  |(go_at_call 113;rw[HW1.out];refine HR.out.mono ?_;rintro e w3 hp3;obtain ⟨v,hv,hq⟩:=prROut_val hp3;subst hv;have HQ:=hid hq;clear hp3 hq))
 go_ret
 exact ⟨_,rfl,HQ.out⟩
theorem raw_ask {s:De.Rd} (hs:De.Sane s) (w:World) (tag least most:Int) :
  (readP s (De.peek s:Nat) (rawR w (De.peek s))).1.e=(De.ask s 11 tag least most).1.e∧((readP s (De.peek s:Nat) (rawR w (De.peek s))).1.e=0→(readP s (De.peek s:Nat) (rawR w (De.peek s))).1=(De.ask s 11 tag least most).1) ∧
  (match (readP s (De.peek s:Nat) (rawR w (De.peek s))).2 with
   |none=>(De.ask s 11 tag least most).2=De.none0
   |some V=>(De.ask s 11 tag least most).2={ De.none0 with b:=(De.ask s 11 tag least most).2.b }∧V=(fun W v=>Sup (fun k=>w.heap.size≤k∧k<W.heap.size) W (fun X=>Bytes X v (De.ask s 11 tag least most).2.b∧Whole0 v))):=by
 unfold De.ask
 by_cases he:s.e=0
 ·rw[if_neg (by simp[he]),if_neg (by decide),if_neg (by decide),if_pos rfl]
  by_cases ht:s.top=[]
  ·have e1:readP s (De.peek s:Nat) (rawR w (De.peek s))=({ s with e:=2 },none):=by unfold readP nextP;rw[if_neg (by simp[he]),if_pos ht]
   have e2:De.next s 0=({ s with e:=2 },none):=by unfold De.next;rw[if_neg (by simp[he]),ht];rfl
   rw[e1,e2]
   exact ⟨rfl,fun h=>rfl,rfl⟩
  ·obtain ⟨t,i,n,hq,_,hk,hn,hel,_,hlen,_⟩:=De.sane_first hs he ht
   have hpk:De.peek s=t:=by
    have hm:De.more s=true:=by unfold De.more;simp[he,ht]
    unfold De.peek
    rw[if_pos hm]
    have h0:=congrArg (fun l=>l.getD 0 0) hel
    simp only[Tl.elem,List.getD_cons_zero] at h0
    cases hs:s.top with
    |nil=>exact absurd hs ht
    |cons x r =>
     rw[hs] at h0
     cases hin:i+n with
     |zero=>rw[hin] at hel;simp[Tl.elem] at hel
     |succ m=>rw[hin] at h0;simpa using h0
   have e2:De.next s 0=({ s with top:=s.top.drop (i+n) },some ((s.top.drop i).take n,s.top.take (i+n))):=by
    unfold De.next;rw[if_neg (by simp[he]),hq];simp
   have e3:rawR w t ((s.top.drop i).take n)=.ok (fun W v=>Sup (fun k=>w.heap.size≤k∧k<W.heap.size) W (fun X=>Bytes X v (Tl.elem t ((s.top.drop i).take n))∧Whole0 v)):=by
    unfold rawR;rw[if_neg (by rw[hk];simp),if_neg (by omega)]
   have e1:readP s (De.peek s:Nat) (rawR w (De.peek s))=({ s with top:=s.top.drop (i+n) },some (fun W v=>Sup (fun k=>w.heap.size≤k∧k<W.heap.size) W (fun X=>Bytes X v (Tl.elem t ((s.top.drop i).take n))∧Whole0 v))):=by
    rw[hpk];unfold readP nextP;rw[if_neg (by simp[he]),if_neg ht,hq];simp[e3]
   rw[e1,e2]
   refine ⟨rfl,fun h=>rfl,rfl,?_⟩
   rw[←hel]
 ·have e1:readP s (De.peek s:Nat) (rawR w (De.peek s))=(s,none):=by unfold readP nextP;rw[if_pos (by simp[he])]
  rw[if_pos (by simp[he]),e1]
  exact ⟨rfl,fun h=>rfl,rfl⟩
theorem peek_lt {s:De.Rd} (hs:De.Sane s):De.peek s<256:=by
 by_cases hm:De.more s=true
 ·have he:s.e=0:=by unfold De.more at hm;simp at hm;exact hm.1
  have ht:s.top≠[]:=by unfold De.more at hm;simp at hm;exact hm.2
  obtain ⟨k,_,h2,_⟩:=hs he
  unfold De.peek
  rw[if_pos hm]
  cases hc:s.top with
  |nil=>exact absurd hc ht
  |cons x r=>exact h2.1 x (by rw[hc];simp)
 ·unfold De.peek;rw[if_neg hm];decide
theorem raRaw {A:Nat→Addr} {W0 w:World} {F:Nat→Prop} {b:Nat} {s:De.Rd} (h:PrR A W0 F b s w) (hE:AllErrs W0 A) (tag least most:Int) :
  Calls Tryz.prog 67 #[.pointer (some ⟨b,0,none⟩)] w fun e w'=>∃ a c,e=.returned (.slice a (De.ask s 11 tag least most).2.b.length c)∧Upto F w w'∧PrR A W0 (Ext F w w') b (De.ask s 11 tag least most).1 w' ∧
   (De.ask s 11 tag least most).2={ De.none0 with b:=(De.ask s 11 tag least most).2.b }∧Sup (fun k=>w.heap.size≤k∧k<w'.heap.size) w' (fun X=>Bytes X (.slice a (De.ask s 11 tag least most).2.b.length c) (De.ask s 11 tag least most).2.b∧Whole0 (.slice a (De.ask s 11 tag least most).2.b.length c)):=by
 refine (rrRaw_any h hE (peek_lt h.sane)).mono (fun e w' ⟨v,he,hp⟩=>?_)
 subst he
 obtain ⟨q1,q2,q3⟩:=hp
 obtain ⟨p1,p2,p3⟩:=raw_ask h.sane w tag least most
 have hst:PrR A W0 (Ext F w w') b (De.ask s 11 tag least most).1 w':=by
  by_cases he:(readP s (De.peek s:Nat) (rawR w (De.peek s))).1.e=0
  ·rw[←p2 he];exact q2
  ·exact q2.err_any he p1.symm
 revert q3 p3
 cases (readP s (De.peek s:Nat) (rawR w (De.peek s))).2 with
 |none =>
  intro q3 p3
  have q3:Ending.returned v=.returned (.slice none 0 0):=q3
  have p3:(De.ask s 11 tag least most).2=De.none0:=p3
  obtain rfl:=Ending.returned.inj q3
  rw[p3]
  exact ⟨none,0,rfl,q1,hst,rfl,sup_nil _ _⟩
 |some V =>
  intro q3 p3
  obtain ⟨v2,e2,hv⟩:∃ v2,Ending.returned v=.returned v2∧V w' v2:=q3
  obtain rfl:=Ending.returned.inj e2
  obtain ⟨p4,p5⟩:=p3
  rw[p5] at hv
  have hv:Sup (fun k=>w.heap.size≤k∧k<w'.heap.size) w' (fun X=>Bytes X v (De.ask s 11 tag least most).2.b∧Whole0 v):=hv
  obtain ⟨_,a,_,_,c,rfl,_⟩:=hv.now.1
  exact ⟨a,c,rfl,q1,hst,p4,hv⟩
theorem lget_Raw {A:Nat→Addr} {W0 w:World} {F:Nat→Prop} {b:Nat} {s:De.Rd} (h:PrR A W0 F b s w) (hA:AllErrs W0 A) (tag least most:Int) :
  Calls Tryz.prog 20 #[.pointer (some ⟨b,0,none⟩),.agg #[.int .i64 11,.int .i64 tag,.int .i64 least,.int .i64 most]] w fun e w'=>∃ v,e=.returned v∧GotPost A W0 F b s 11 tag least most w w' v:=by
 obtain ⟨W2,hW2⟩:∃ W2,W2=(w.alloc (.cells #[.int .i64 11,.int .i64 tag,.int .i64 least,.int .i64 most] 31)).alloc (.cells #[.int .i64 0,.int .i64 0,.bool false,.slice none 0 0,.string ⟨#[]⟩] 41):=⟨_,rfl⟩
 have hga:w.grownBy W2 none:=by rw[hW2];exact grown_alloc (World.grownBy_alloc _ _ _) _
 have b0:W2.heap[w.heap.size]?=some (.cells #[.int .i64 11,.int .i64 tag,.int .i64 least,.int .i64 most] 31 (0,0)):=by rw[hW2];exact alloc2_old _ _ _
 have b1:W2.heap[w.heap.size+1]?=some (.cells #[.int .i64 0,.int .i64 0,.bool false,.slice none 0 0,.string ⟨#[]⟩] 41 (0,0)):=by rw[hW2];exact alloc2_new _ _ _
 have hs2:W2.heap.size=w.heap.size+2:=by rw[hW2,alloc2_size]
 have c0:=cell_blk b0 0 rfl
 have c1:=cell_blk b0 1 rfl
 have h2:=h.still hga
 have HN:Hid (Calls Tryz.prog 67 #[.pointer (some ⟨b,0,none⟩)] W2 fun e w'=>∃ a c,e=.returned (.slice a (De.ask s 11 tag least most).2.b.length c)∧Upto F W2 w'∧PrR A W0 (Ext F W2 w') b (De.ask s 11 tag least most).1 w'∧(De.ask s 11 tag least most).2={ De.none0 with b:=(De.ask s 11 tag least most).2.b }∧Sup (fun k=>W2.heap.size≤k∧k<w'.heap.size) w' (fun X=>Bytes X (.slice a (De.ask s 11 tag least most).2.b.length c) (De.ask s 11 tag least most).2.b∧Whole0 (.slice a (De.ask s 11 tag least most).2.b.length c))∧w'.heap[w.heap.size+1]?=some (.cells #[.int .i64 0,.int .i64 0,.bool false,.slice none 0 0,.string ⟨#[]⟩] 41 (0,0))):=hid ((raRaw h2 hA tag least most).mono (fun e w' hh=>by
  obtain ⟨a,c,q3,q1,q2,q4,q5⟩:=hh
  refine ⟨a,c,q3,q1,q2,q4,q5,?_⟩
  rw[q1.block _ (by omega) (fun hf=>by have:=(h.own _ hf).2;omega)];exact b1))
 have HX:=hid h
 have HW2:=hid hW2
 have HI5:Hid ((Tryz.prog.info? 41).map (·.size)=some 5):=hid (by kernel_rfl)
 obtain ⟨q1,hq1⟩:∃ q1,q1=(De.enter s tag).2:=⟨_,rfl⟩
 have HQ1:=hid hq1
 clear c1
 clear h hA hga hs2 h2 b0 b1 hq1
 go_enter Tryz.func20,Tryz.ntmps20
 go_wp2_with (first
  |(go_at_call 67;rw[←HW2.out];refine HN.out.mono ?_;rintro e w3 ⟨a,c,rfl,p1,p2,p4,p5,hb3⟩;have P4:=hid p4;have P5:=hid p5;have P1:=hid p1;have P2:=hid p2;have HB3:=hid hb3;obtain ⟨n,hn⟩:∃ n,n=(De.ask s 11 tag least most).2.b.length:=⟨_,rfl⟩;rw[←hn];have HNn:=hid hn;clear p1 p2 p4 p5 hb3 hn)
  |(refine wpList_store_row (by rfl) 41 (.tmp 4) (.tmp 72) (by rfl) (w.heap.size+1) #[.int .i64 0,.int .i64 0,.bool false,.slice a n c,.string ⟨#[]⟩] (by rfl) (by rfl) _ _ HB3.out HI5.out rfl (one5 _ _ _ _ _ _ _) ?_;obtain ⟨w4,hw4⟩:∃ w4,w4=w3.setRow (w.heap.size+1) #[.int .i64 0,.int .i64 0,.bool false,.slice a n c,.string ⟨#[]⟩]:=⟨_,rfl⟩;rw[←hw4];have hb4:w4.heap[w.heap.size+1]?=some (.cells #[.int .i64 0,.int .i64 0,.bool false,.slice a n c,.string ⟨#[]⟩] 41 (0,0)):=(by rw[hw4];exact setRow_heap _ _ _ _ _ _ HB3.out);have HW4:=hid hw4;have HB4:=hid hb4;clear hw4 hb4))
 refine bodyPost_ret (v:=.agg #[.int .i64 0,.int .i64 0,.bool false,.slice a n c,.string ⟨#[]⟩]) ?_ rfl ⟨_,rfl,got_fin2 HX.out HW2.out P1.out P2.out HW4.out ?_⟩
 ·exact results_cell_row Tryz.results20 _ _ (w.heap.size+1) _ _ (0,0) _ rfl HB4.out Tryz.underlying41 rfl HI5.out
 refine ⟨a,c,?_,P5.out⟩
 rw[HNn.out,P4.out]
 rfl
theorem ask_else {s:De.Rd} (k tag least most:Int) (h1:k≠1) (h2:k≠2) (h3:k≠3) (h4:k≠4) (h5:k≠5) (h6:k≠6) (h7:k≠7) (h8:k≠8) (h9:k≠9) (h11:k≠11):De.ask s k tag least most=De.ask s 10 tag least most:=by
 have ht:De.tagOf k=De.tagOf 10:=by unfold De.tagOf;rw[if_neg h3,if_neg h4,if_neg h5,if_neg h6,if_neg h7,if_neg h8,if_neg h9];rfl
 have hs:∀ l,De.said k least most l=De.said 10 least most l:=fun l=>by
  unfold De.said
  rw[if_neg (by omega),if_neg h5,if_neg h6,if_neg h7,if_neg h8,if_neg h9,if_neg (by decide),if_neg (by decide),if_neg (by decide),if_neg (by decide),if_neg (by decide),if_neg (by decide)]
 unfold De.ask
 by_cases he:s.e≠0
 ·rw[if_pos he,if_pos he]
 ·rw[if_neg he,if_neg he,if_neg h1,if_neg h2,if_neg h11,if_neg (by decide),if_neg (by decide),if_neg (by decide),ht]
  simp only[hs]
theorem GotPost.as {A:Nat→Addr} {W0:World} {F:Nat→Prop} {b:Nat} {s:De.Rd} {k k2 tag least most:Int} {w w':World} {v:Value} (h:De.ask s k tag least most=De.ask s k2 tag least most) (hg:GotPost A W0 F b s k2 tag least most w w' v):GotPost A W0 F b s k tag least most w w' v :=
 ⟨hg.upto,by rw[h];exact hg.rd,by rw[h];exact hg.ans⟩
theorem lget_else {A:Nat→Addr} {W0 w:World} {F:Nat→Prop} {b:Nat} {s:De.Rd} (h:PrR A W0 F b s w) (hA:ReadsOf A W0) (hnx:∀ l,Top1 s l→l.length≤1000) (k tag least most:Int) (hm:inT most) (h1:k≠1) (h2:k≠2) (h3:k≠3) (h4:k≠4) (h5:k≠5) (h6:k≠6) (h7:k≠7) (h8:k≠8) (h9:k≠9) (h11:k≠11) :
  Calls Tryz.prog 20 #[.pointer (some ⟨b,0,none⟩),.agg #[.int .i64 k,.int .i64 tag,.int .i64 least,.int .i64 most]] w fun e w'=>∃ v,e=.returned v∧GotPost A W0 F b s k tag least most w w' v:=by
 have e1:((k:Int)==1)=false:=by simpa using h1
 have e2:((k:Int)==2)=false:=by simpa using h2
 have e3:((k:Int)==3)=false:=by simpa using h3
 have e4:((k:Int)==4)=false:=by simpa using h4
 have e5:((k:Int)==5)=false:=by simpa using h5
 have e6:((k:Int)==6)=false:=by simpa using h6
 have e7:((k:Int)==7)=false:=by simpa using h7
 have e8:((k:Int)==8)=false:=by simpa using h8
 have e9:((k:Int)==9)=false:=by simpa using h9
 have e11:((k:Int)==11)=false:=by simpa using h11
 have HK:=hid (ask_else (s:=s) k tag least most h1 h2 h3 h4 h5 h6 h7 h8 h9 h11)
 clear h1 h2 h3 h4 h5 h6 h7 h8 h9 h11
 obtain ⟨W2,hW2⟩:∃ W2,W2=(w.alloc (.cells #[.int .i64 k,.int .i64 tag,.int .i64 least,.int .i64 most] 31)).alloc (.cells #[.int .i64 0,.int .i64 0,.bool false,.slice none 0 0,.string ⟨#[]⟩] 41):=⟨_,rfl⟩
 have hga:w.grownBy W2 none:=by rw[hW2];exact grown_alloc (World.grownBy_alloc _ _ _) _
 have b0:W2.heap[w.heap.size]?=some (.cells #[.int .i64 k,.int .i64 tag,.int .i64 least,.int .i64 most] 31 (0,0)):=by rw[hW2];exact alloc2_old _ _ _
 have b1:W2.heap[w.heap.size+1]?=some (.cells #[.int .i64 0,.int .i64 0,.bool false,.slice none 0 0,.string ⟨#[]⟩] 41 (0,0)):=by rw[hW2];exact alloc2_new _ _ _
 have hs2:W2.heap.size=w.heap.size+2:=by rw[hW2,alloc2_size]
 have c0:=cell_blk b0 0 rfl
 have c1:=cell_blk b0 1 rfl
 have c2:=cell_blk b0 2 rfl
 have c3:=cell_blk b0 3 rfl
 have h2:=h.still hga
 have HN:Hid (Calls Tryz.prog 68 #[.pointer (some ⟨b,0,none⟩)] W2 fun e w'=>(∃ n1:Int,e=.returned (.int .i64 n1)∧AskPost A W0 F b s 10 tag least most W2 w' (.int .i64 n1))∧w'.heap[w.heap.size+1]?=some (.cells #[.int .i64 0,.int .i64 0,.bool false,.slice none 0 0,.string ⟨#[]⟩] 41 (0,0))):=hid ((raFlags h2 hA hnx 10 tag least most (by decide) (by decide)).mono (fun e w' ⟨v,he,hp⟩=>by
  subst he
  refine ⟨by obtain ⟨h1,_⟩:=ans_num hp.ans hp.one (by decide);exact ⟨_,by rw[h1],by rw[h1] at hp;exact hp⟩,?_⟩
  rw[hp.upto.block _ (by omega) (fun hf=>by have:=(h.own _ hf).2;omega)];exact b1))
 have HX:=hid h
 have HW2:=hid hW2
 have HI5:Hid ((Tryz.prog.info? 41).map (·.size)=some 5):=hid (by kernel_rfl)
 clear h hA hnx hm hga hs2 h2 b0 b1
 go_enter Tryz.func20,Tryz.ntmps20
 go_wp2_with (first
  |(go_at_call 68;rw[←HW2.out];refine HN.out.mono ?_;rintro e w3 ⟨⟨n1,rfl,hp3⟩,hb3⟩;have HP3:=hid hp3;have HB3:=hid hb3;clear hp3 hb3)
  |(refine wpList_store_row (by rfl) 41 (.tmp 4) (.tmp 75) (by rfl) (w.heap.size+1) #[.int .i64 0,.int .i64 n1,.bool false,.slice none 0 0,.string ⟨#[]⟩] (by rfl) (by rfl) _ _ HB3.out HI5.out rfl (one5 _ _ _ _ _ _ _) ?_;obtain ⟨w4,hw4⟩:∃ w4,w4=w3.setRow (w.heap.size+1) #[.int .i64 0,.int .i64 n1,.bool false,.slice none 0 0,.string ⟨#[]⟩]:=⟨_,rfl⟩;rw[←hw4];have hb4:w4.heap[w.heap.size+1]?=some (.cells #[.int .i64 0,.int .i64 n1,.bool false,.slice none 0 0,.string ⟨#[]⟩] 41 (0,0)):=(by rw[hw4];exact setRow_heap _ _ _ _ _ _ HB3.out);have HW4:=hid hw4;have HB4:=hid hb4;clear hw4 hb4))
 refine bodyPost_ret (v:=.agg #[.int .i64 0,.int .i64 n1,.bool false,.slice none 0 0,.string ⟨#[]⟩]) ?_ rfl ⟨_,rfl,GotPost.as HK.out (got_fin HX.out HW2.out HP3.out HW4.out ?_)⟩
 ·exact results_cell_row Tryz.results20 _ _ (w.heap.size+1) _ _ (0,0) _ rfl HB4.out Tryz.underlying41 rfl HI5.out
 obtain ⟨h1,h2,h3,h4⟩:=ans_num HP3.out.ans HP3.out.one (by decide)
 have h1:n1=_:=(Value.int.inj h1).2
 refine ⟨none,0,by rw[h2,h3,h4,←h1];rfl,?_⟩
 rw[h3];exact sup_nil _ _
theorem lget_any {A:Nat→Addr} {W0 w:World} {F:Nat→Prop} {b:Nat} {s:De.Rd} (h:PrR A W0 F b s w) (hA:ReadsOf A W0) (hnx:∀ l,Top1 s l→l.length≤1000) (k tag least most:Int) (hm:inT most) :
  Calls Tryz.prog 20 #[.pointer (some ⟨b,0,none⟩),.agg #[.int .i64 k,.int .i64 tag,.int .i64 least,.int .i64 most]] w fun e w'=>∃ v,e=.returned v∧GotPost A W0 F b s k tag least most w w' v:=by
 by_cases h1:k=1
 ·subst h1;exact lget_Enter h hA.errs tag least most
 by_cases h2:k=2
 ·subst h2;exact lget_Leave h hA.errs tag least most
 by_cases h3:k=3
 ·subst h3;exact lget_Int h hA hnx tag least most hm
 by_cases h4:k=4
 ·subst h4;exact lget_Enum h hA hnx tag least most hm
 by_cases h5:k=5
 ·subst h5;exact lget_Bool h hA hnx tag least most hm
 by_cases h6:k=6
 ·subst h6;exact lget_Octets h hA hnx tag least most hm
 by_cases h7:k=7
 ·subst h7;exact lget_Text h hA hnx tag least most hm
 by_cases h8:k=8
 ·subst h8;exact lget_OID h hA hnx tag least most hm
 by_cases h9:k=9
 ·subst h9;exact lget_Moment h hA hnx tag least most hm
 by_cases h11:k=11
 ·subst h11;exact lget_Raw h hA.errs tag least most
 exact lget_else h hA hnx k tag least most hm h1 h2 h3 h4 h5 h6 h7 h8 h9 h11
def TwoR (A:Nat→Addr) (W0:World) (b1 b2:Nat) (B:Nat→Prop) (s:De.Rd) (w:World):Prop :=
 ∃ F1 F2,PrR A W0 F1 b1 s w∧RefR W0 F2 b2 s w∧Apart F1 F2∧∀ k,B k→k<w.heap.size∧¬ F1 k∧¬ F2 k
theorem rturn_ext {F:Nat→Prop} {w w':World} (h:Upto F w w'):Turn F (Ext F w w') w w':=⟨h,fun k hk hf=>by
 rcases hf with hf|hf
 ·exact hf
 ·omega⟩
section
variable {A:Nat→Addr} {W0 w w' w3 w4:World} {b1 b2:Nat} {B:Nat→Prop} {s:De.Rd}
theorem TwoR.still (h:TwoR A W0 b1 b2 B s w) (hg:w.grownBy w' none):TwoR A W0 b1 b2 B s w':=by
 obtain ⟨F1,F2,h1,h2,h3,h4⟩:=h
 exact ⟨F1,F2,h1.still hg,h2.still hg,h3,fun k hk=>⟨Nat.lt_of_lt_of_le (h4 k hk).1 hg.size,(h4 k hk).2⟩⟩
theorem TwoR.keep (h:TwoR A W0 b1 b2 B s w) (hg:w.grownBy w' none):TwoR A W0 b1 b2 (fun k=>B k∨(w.heap.size≤k∧k<w'.heap.size)) s w':=by
 obtain ⟨F1,F2,h1,h2,h3,h4⟩:=h
 refine ⟨F1,F2,h1.still hg,h2.still hg,h3,fun k hk=>?_⟩
 rcases hk with hk|hk
 ·exact ⟨Nat.lt_of_lt_of_le (h4 k hk).1 hg.size,(h4 k hk).2⟩
 ·exact ⟨hk.2,fun hf=>by have:=(h1.own k hf).2;omega,fun hf=>by have:=(h2.own k hf).2;omega⟩
end
structure GhR where
 F1:Nat→Prop
 F2:Nat→Prop
 g6:Nat
 g7:Nat
def vz5:Array Value:=#[.int .i64 0,.int .i64 0,.bool false,.slice none 0 0,.string ⟨#[]⟩]
structure InvR (A:Nat→Addr) (W0:World) (b1 b2:Nat) (B:Nat→Prop) (s s':De.Rd) (W:World) (x:GhR) (L:Nat→Bool) (w:World):Prop where
 r1:PrR A W0 x.F1 b1 (if L 2=true then s' else s) w
 r2:RefR W0 x.F2 b2 (if L 5=true then s' else s) w
 ap:Apart x.F1 x.F2
 off:∀ k,B k→k<w.heap.size∧¬ x.F1 k∧¬ x.F2 k
 same:∀ k,B k→w.heap[k]?=W.heap[k]?
 siz:W.heap.size≤w.heap.size
 ord:L 5=true→L 2=true
 n6:L 6=true→w.heap[x.g6]?=some (.cells vz5 41 (0,0))∧W.heap.size≤x.g6∧¬ x.F1 x.g6∧¬ x.F2 x.g6
 n7:L 7=true→w.heap[x.g7]?=some (.cells vz5 41 (0,0))∧W.heap.size≤x.g7∧¬ x.F1 x.g7∧¬ x.F2 x.g7
 ne:L 6=true→L 7=true→x.g6≠x.g7
def FacR (W0:World) (b1 b2:Nat) (av:Value) (y:De.Val) (x:GhR) (j:Nat) (v:Value) (w:World):Prop :=
 match j with
 |0=>v=.pointer (some ⟨b1,0,none⟩)
 |1=>v=av
 |2=>∃ a c,v=.agg #[.int .i64 0,.int .i64 y.n,.bool y.is,.slice a y.b.length c,.string (strOf y.t)]∧Sup x.F1 w (fun W=>Bytes W (.slice a y.b.length c) y.b∧Whole0 (.slice a y.b.length c))
 |3=>v=.pointer (some ⟨b2,0,none⟩)
 |4=>v=av
 |5=>∃ a c S,v=.agg #[.int .i64 0,.int .i64 y.n,.bool y.is,.slice a y.b.length c,.string S]∧strL S=y.t∧Sup (ImR W0 x.F2 b2) w (fun W=>Bytes W (.slice a y.b.length c) y.b∧Whole0 (.slice a y.b.length c))
 |6=>v=.pointer (some ⟨x.g6,0,none⟩)
 |7=>v=.pointer (some ⟨x.g7,0,none⟩)
 |_=>True
section
variable {A:Nat→Addr} {W0 W w w':World} {b1 b2:Nat} {B:Nat→Prop} {s s':De.Rd} {x:GhR} {L:Nat→Bool} {av:Value} {y:De.Val}
theorem doneG_ne {L:Nat→Bool} {j k:Nat} (h:k≠j):doneG L j k=L k:=if_neg h
theorem doneG_self {L:Nat→Bool} {j:Nat}:doneG L j j=true:=if_pos rfl
theorem InvR.move {j:Nat} (h:InvR A W0 b1 b2 B s s' W x L w) (hj:j≠2∧j≠5∧j≠6∧j≠7):InvR A W0 b1 b2 B s s' W x (doneG L j) w:=by
 have e2:doneG L j 2=L 2:=doneG_ne hj.1.symm
 have e5:doneG L j 5=L 5:=doneG_ne hj.2.1.symm
 have e6:doneG L j 6=L 6:=doneG_ne hj.2.2.1.symm
 have e7:doneG L j 7=L 7:=doneG_ne hj.2.2.2.symm
 exact ⟨by rw[e2];exact h.r1,by rw[e5];exact h.r2,h.ap,h.off,h.same,h.siz,by rw[e5,e2];exact h.ord,by rw[e6];exact h.n6,by rw[e7];exact h.n7,by rw[e6,e7];exact h.ne⟩
theorem gh_old {w:World} {o:Obj} {k:Nat} (hk:k<w.heap.size):(w.alloc o).heap[k]?=w.heap[k]?:=(World.grownBy_alloc w o none).block k hk (by simp)
theorem InvR.own6 (h:InvR A W0 b1 b2 B s s' W x L w) (h6:L 6=false):InvR A W0 b1 b2 B s s' W { x with g6:=w.heap.size } (doneG L 6) (w.alloc (.cells vz5 41)):=by
 have hg:=World.grownBy_alloc w (.cells vz5 41) none
 have hs:(w.alloc (.cells vz5 41)).heap.size=w.heap.size+1:=alloc_size _ _
 refine ⟨h.r1.still hg,h.r2.still hg,h.ap,fun k hk=>⟨by have:=(h.off k hk).1;omega,(h.off k hk).2⟩,fun k hk=>by rw[gh_old (h.off k hk).1];exact h.same k hk,by have:=h.siz;omega,h.ord,fun _=>⟨alloc_at _ _,h.siz,fun hf=>?_,fun hf=>?_⟩,fun h7=>?_,fun _ h7 e=>?_⟩
 ·exact absurd (show w.heap.size<w.heap.size from (h.r1.own _ hf).2) (Nat.lt_irrefl _)
 ·exact absurd (show w.heap.size<w.heap.size from (h.r2.own _ hf).2) (Nat.lt_irrefl _)
 ·obtain ⟨k1,k2,k3⟩:=h.n7 h7
  exact ⟨by rw[gh_old (blk_lt k1)];exact k1,k2,k3⟩
 ·have:=blk_lt (h.n7 h7).1
  have e:w.heap.size=x.g7:=e
  omega
theorem InvR.own7 (h:InvR A W0 b1 b2 B s s' W x L w) (h7:L 7=false):InvR A W0 b1 b2 B s s' W { x with g7:=w.heap.size } (doneG L 7) (w.alloc (.cells vz5 41)):=by
 have hg:=World.grownBy_alloc w (.cells vz5 41) none
 have hs:(w.alloc (.cells vz5 41)).heap.size=w.heap.size+1:=alloc_size _ _
 refine ⟨h.r1.still hg,h.r2.still hg,h.ap,fun k hk=>⟨by have:=(h.off k hk).1;omega,(h.off k hk).2⟩,fun k hk=>by rw[gh_old (h.off k hk).1];exact h.same k hk,by have:=h.siz;omega,h.ord,fun h6=>?_,fun _=>⟨alloc_at _ _,h.siz,fun hf=>?_,fun hf=>?_⟩,fun h6 _ e=>?_⟩
 ·obtain ⟨k1,k2,k3⟩:=h.n6 h6
  exact ⟨by rw[gh_old (blk_lt k1)];exact k1,k2,k3⟩
 ·exact absurd (show w.heap.size<w.heap.size from (h.r1.own _ hf).2) (Nat.lt_irrefl _)
 ·exact absurd (show w.heap.size<w.heap.size from (h.r2.own _ hf).2) (Nat.lt_irrefl _)
 ·have:=blk_lt (h.n6 h6).1
  have e:x.g6=w.heap.size:=e
  omega
theorem FacR.own {o:Obj} {g6 g7 k:Nat} {u:Value} (h:FacR W0 b1 b2 av y x k u w) (h6:k=6→g6=x.g6) (h7:k=7→g7=x.g7):FacR W0 b1 b2 av y ⟨x.F1,x.F2,g6,g7⟩ k u (w.alloc o):=by
 match k,h with
 |0,h=>exact h
 |1,h=>exact h
 |2,h =>
  obtain ⟨a,c,e,hs⟩:=h
  exact ⟨a,c,e,hs.grown (World.grownBy_alloc _ _ _)⟩
 |3,h=>exact h
 |4,h=>exact h
 |5,h =>
  obtain ⟨a,c,S,e,e2,hs⟩:=h
  exact ⟨a,c,S,e,e2,hs.grown (World.grownBy_alloc _ _ _)⟩
 |6,h=>show _=_;rw[h6 rfl];exact h
 |7,h=>show _=_;rw[h7 rfl];exact h
 |k+8,h=>trivial
theorem InvR.got {k tag least most:Int} {v:Value} (h:InvR A W0 b1 b2 B s s' W x L w) (h2:L 2=false) (hs':s'=(De.ask s k tag least most).1) (hg:GotPost A W0 x.F1 b1 s k tag least most w w' v) :
  InvR A W0 b1 b2 B s s' W { x with F1:=Ext x.F1 w w' } (doneG L 2) w':=by
 have h5:L 5=false:=by cases h5:L 5 with
  |false=>rfl
  |true=>rw[h.ord h5] at h2;cases h2
 have hsz:=hg.upto.size
 have hr1:PrR A W0 x.F1 b1 s w:=by have:=h.r1;rwa [h2,if_neg (by decide)] at this
 have keep:∀ g,w.heap[g]?=some (.cells vz5 41 (0,0))∧W.heap.size≤g∧¬ x.F1 g∧¬ x.F2 g→w'.heap[g]?=some (.cells vz5 41 (0,0))∧W.heap.size≤g∧¬ Ext x.F1 w w' g∧¬ x.F2 g:=fun g ⟨k1,k2,k3,k4⟩ =>
  ⟨by rw[hg.upto.block g (blk_lt k1) k3];exact k1,k2,fun hf=>by
   rcases hf with hf|hf
   ·exact k3 hf
   ·have:=blk_lt k1;omega,k4⟩
 refine ⟨?_,?_,fun k hk hf=>?_,fun k hk=>?_,fun k hk=>?_,by have:=h.siz;omega,fun h5'=>doneG_self,fun h6=>keep _ (h.n6 h6),fun h7=>keep _ (h.n7 h7),h.ne⟩
 ·rw[doneG_self,if_pos rfl,hs'];exact hg.rd
 ·rw[doneG_ne (by decide)]
  exact h.r2.other (G:=x.F1) (G':=Ext x.F1 w w') (fun k hk=>(hr1.own k hk).1) (rturn_ext hg.upto) h.ap
 ·rcases hk with hk|hk
  ·exact h.ap k hk hf
  ·have:=(h.r2.own k hf).2;omega
 ·obtain ⟨q1,q2,q3⟩:=h.off k hk
  refine ⟨by omega,fun hf=>?_,q3⟩
  rcases hf with hf|hf
  ·exact q2 hf
  ·omega
 ·obtain ⟨q1,q2,q3⟩:=h.off k hk
  rw[hg.upto.block k q1 q2];exact h.same k hk
theorem FacR.got {k tag least most:Int} {v:Value} (h:InvR A W0 b1 b2 B s s' W x L w) (h2:L 2=false) (hg:GotPost A W0 x.F1 b1 s k tag least most w w' v) {j:Nat} {u:Value} (hj:L j=true) (hf:FacR W0 b1 b2 av y x j u w):FacR W0 b1 b2 av y { x with F1:=Ext x.F1 w w' } j u w':=by
 match j,hj,hf with
 |0,_,hf=>exact hf
 |1,_,hf=>exact hf
 |2,hj,hf=>rw[h2] at hj;cases hj
 |3,_,hf=>exact hf
 |4,_,hf=>exact hf
 |5,hj,hf=>rw[h.ord hj] at h2;cases h2
 |6,_,hf=>exact hf
 |7,_,hf=>exact hf
 |k+8,_,hf=>trivial
theorem InvR.did {k tag least most:Int} {e:Ending} (h:InvR A W0 b1 b2 B s s' W x L w) (h5:L 5=false) (h2:L 2=true) (hs':s'=(De.ask s k tag least most).1) (hg:DoO W0 x.F2 b2 (De.ask s k tag least most) w w' e) :
  InvR A W0 b1 b2 B s s' W { x with F2:=Ext x.F2 w w' } (doneG L 5) w':=by
 have hsz:=hg.upto.size
 have keep:∀ g,w.heap[g]?=some (.cells vz5 41 (0,0))∧W.heap.size≤g∧¬ x.F1 g∧¬ x.F2 g→w'.heap[g]?=some (.cells vz5 41 (0,0))∧W.heap.size≤g∧¬ x.F1 g∧¬ Ext x.F2 w w' g:=fun g ⟨k1,k2,k3,k4⟩ =>
  ⟨by rw[hg.upto.block g (blk_lt k1) k4];exact k1,k2,k3,fun hf=>by
   rcases hf with hf|hf
   ·exact k4 hf
   ·have:=blk_lt k1;omega⟩
 refine ⟨?_,?_,fun k hk hf=>?_,fun k hk=>?_,fun k hk=>?_,by have:=h.siz;omega,fun h5'=>by rw[doneG_ne (by decide)];exact h2,fun h6=>keep _ (h.n6 h6),fun h7=>keep _ (h.n7 h7),h.ne⟩
 ·rw[doneG_ne (by decide)]
  exact h.r1.other (G:=x.F2) (G':=Ext x.F2 w w') (fun k hk=>(h.r2.own k hk).1) (rturn_ext hg.upto) h.ap.symm
 ·rw[doneG_self,if_pos rfl,hs'];exact hg.rd
 ·rcases hf with hf|hf
  ·exact h.ap k hk hf
  ·have:=(h.r1.own k hk).2;omega
 ·obtain ⟨q1,q2,q3⟩:=h.off k hk
  refine ⟨by omega,q2,fun hf=>?_⟩
  rcases hf with hf|hf
  ·exact q3 hf
  ·omega
 ·obtain ⟨q1,q2,q3⟩:=h.off k hk
  rw[hg.upto.block k q1 q3];exact h.same k hk
theorem FacR.did {k tag least most:Int} {e:Ending} (h:InvR A W0 b1 b2 B s s' W x L w) (h5:L 5=false) (hg:DoO W0 x.F2 b2 (De.ask s k tag least most) w w' e) {j:Nat} {u:Value} (hj:L j=true) (hf:FacR W0 b1 b2 av y x j u w):FacR W0 b1 b2 av y { x with F2:=Ext x.F2 w w' } j u w':=by
 match j,hj,hf with
 |0,_,hf=>exact hf
 |1,_,hf=>exact hf
 |2,_,hf =>
  obtain ⟨a,c,e,hs⟩:=hf
  exact ⟨a,c,e,hs.upto hg.upto (fun k hk hf=>h.ap k hk hf)⟩
 |3,_,hf=>exact hf
 |4,_,hf=>exact hf
 |5,hj,hf=>rw[h5] at hj;cases hj
 |6,_,hf=>exact hf
 |7,_,hf=>exact hf
 |k+8,_,hf=>trivial
end
section
variable {P:Program} {a:Act} {o:Oper} {w:World}
theorem ralloc_val {t:TypeId} {v:Value} {w':World} (ho:o.op=.alloc t) (h:(Instr.alloc t true (.tuple #[])).run P w=.ok v w'):(execOp a.eval o).run P w=.ok (.value v) w':=by
 simp[execOp,ho,h,Result.andThen]
end
theorem vAlloc (w:World):(Instr.alloc 41 true (.tuple #[])).run Tryz.prog w=.ok (.pointer (some ⟨w.heap.size,0,none⟩)) (w.alloc (.cells vz5 41)):=by
 simp[go_sem,vz5]
noncomputable def drC14:Code:=regionIn Tryz.f3.body 14
theorem dr_region14 (a:Act) (A:Nat→Addr) (W0 W w:World) (b1 b2 gB:Nat) (B:Nat→Prop) (s:De.Rd) (k tag least most:Int) (Q:Exit→Act→World→Prop) (hsz:a.tmps.size=112)
  (h6:a.eval (.tmp 6)=.pointer (some ⟨b1,0,none⟩)) (h7:a.eval (.tmp 7)=.pointer (some ⟨b2,0,none⟩)) (h9:a.eval (.tmp 9)=.pointer (some ⟨gB,0,none⟩))
  (hT:TwoR A W0 b1 b2 B s W) (hB:B gB) (hgB:W.heap[gB]?=some (.cells #[.int .i64 k,.int .i64 tag,.int .i64 least,.int .i64 most] 31 (0,0))) (hR:ReadsOf A W0) (hS:De.Small s) (hm:inT most) (hw:W.grownBy { w with drawn:=w.drawn+1 } none)
  (hQ:∀ us w' g6 g7 a1 c1 a2 c2 S2,us 10=.pointer (some ⟨g6,0,none⟩)→us 11=.pointer (some ⟨g7,0,none⟩)→TwoR A W0 b1 b2 B (De.ask s k tag least most).1 w'→(∀ j,B j→w'.heap[j]?=W.heap[j]?) →
   w'.heap[g6]?=some (.cells #[.int .i64 0,.int .i64 (De.ask s k tag least most).2.n,.bool (De.ask s k tag least most).2.is,.slice a1 (De.ask s k tag least most).2.b.length c1,.string (strOf (De.ask s k tag least most).2.t)] 41 (0,0)) →
   w'.heap[g7]?=some (.cells #[.int .i64 0,.int .i64 (De.ask s k tag least most).2.n,.bool (De.ask s k tag least most).2.is,.slice a2 (De.ask s k tag least most).2.b.length c2,.string S2] 41 (0,0))→strL S2=(De.ask s k tag least most).2.t →
   Bytes w' (.slice a1 (De.ask s k tag least most).2.b.length c1) (De.ask s k tag least most).2.b→Bytes w' (.slice a2 (De.ask s k tag least most).2.b.length c2) (De.ask s k tag least most).2.b →
   Q .normal (fill a [66,67,68,69,70,71,10,11] us) w'):drC14.wp Tryz.prog Q a w:=by
 have hcf:∀ args w,(callFunc 20 args).run Tryz.prog w=.ok (.enter 20 args) w:=fun _ _=>by simp[go_sem]
 have hcd:∀ args w,(callFunc 21 args).run Tryz.prog w=.ok (.enter 21 args) w:=fun _ _=>by simp[go_sem]
 obtain ⟨F1,F2,hr1,hr2,hap,hoff⟩:=hT
 have hW0W:=hr1.base.size
 obtain ⟨av,hav⟩:∃ av:Value,av=.agg #[.int .i64 k,.int .i64 tag,.int .i64 least,.int .i64 most]:=⟨_,rfl⟩
 obtain ⟨s',hs'⟩:∃ s',s'=(De.ask s k tag least most).1:=⟨_,rfl⟩
 obtain ⟨y,hy⟩:∃ y,y=(De.ask s k tag least most).2:=⟨_,rfl⟩
 rw[←hs',←hy] at hQ
 have hld:∀ (x:GhR) (L:Nat→Bool) w,InvR A W0 b1 b2 B s s' W x L w→w.heap[gB]?=some (.cells #[.int .i64 k,.int .i64 tag,.int .i64 least,.int .i64 most] 31 (0,0)):=fun x L w h=>(h.same gB hB).trans hgB
 conv=>arg 2;whnf
 refine wp_region_flowG 8 [66,67,68,69,70,71,10,11] (⟨F1,F2,0,0⟩:GhR) (InvR A W0 b1 b2 B s s' W) (FacR W0 b1 b2 av y) (by kernel_rfl) (by kernel_rfl) ?_ ?_ ?_
 ·exact ⟨hr1.still hw,hr2.still hw,hap,fun k hk=>⟨Nat.lt_of_lt_of_le (hoff k hk).1 hw.size,(hoff k hk).2⟩,fun k hk=>hw.block k (hoff k hk).1 (by simp),hw.size,(fun h=>by cases h),(fun h=>by cases h),(fun h=>by cases h),(fun h=>by cases h)⟩
 ·refine ⟨?_,?_,?_,?_,?_,?_,?_,?_,trivial⟩
  ·exact flowG_step rfl (fun us w x L hj hI hd=>⟨_,w,x,move_val rfl ((fill_old (by rfl)).trans h6),fun _ _ _ h=>h,rfl,hI.move (by decide)⟩)
  ·exact flowG_step rfl (fun us w x L hj hI hd=>⟨_,w,x,load_val rfl ((fill_old (by rfl)).trans h9) (hld x L w hI) Tryz.underlying31 rfl (by kernel_rfl),fun _ _ _ h=>h,hav.symm,hI.move (by decide)⟩)
  ·refine flowG_call 20 (fun us=>#[us 66,us 67]) rfl (fun us w=>by rw[call_enter rfl hcf,List.map_toArray,List.map_cons,List.map_cons,List.map_nil,fill_tmp (by rfl) (by rw[hsz];decide),fill_tmp (by rfl) (by rw[hsz];decide)]) (fun us w x L hj hdep hI hd=>?_)
   rw[show us 66=.pointer (some ⟨b1,0,none⟩) from hd 0 (by decide),show us 67=av from hd 1 (by decide),hav]
   have h1:PrR A W0 x.F1 b1 s w:=by have:=hI.r1;rwa [hj,if_neg (by decide)] at this
   refine (lget_any h1 hR hS.top1 k tag least most hm).mono ?_
   rintro e w' ⟨v,rfl,hg⟩
   refine ⟨v,{ x with F1:=Ext x.F1 w w' },rfl,fun j u hj' hf=>FacR.got hI hj hg hj' hf,?_,hI.got hj hs' hg⟩
   obtain ⟨a',c',e1,hsup⟩:=hg.ans
   rw[←hy] at e1 hsup
   exact ⟨a',c',e1,hsup.mono (fun j hj=>.inr hj) (fun j hj=>(hg.rd.own j hj).2)⟩
  ·exact flowG_step rfl (fun us w x L hj hI hd=>⟨_,w,x,move_val rfl ((fill_old (by rfl)).trans h7),fun _ _ _ h=>h,rfl,hI.move (by decide)⟩)
  ·exact flowG_step rfl (fun us w x L hj hI hd=>⟨_,w,x,load_val rfl ((fill_old (by rfl)).trans h9) (hld x L w hI) Tryz.underlying31 rfl (by kernel_rfl),fun _ _ _ h=>h,hav.symm,hI.move (by decide)⟩)
  ·refine flowG_call 21 (fun us=>#[us 69,us 70]) rfl (fun us w=>by rw[call_enter rfl hcd,List.map_toArray,List.map_cons,List.map_cons,List.map_nil,fill_tmp (by rfl) (by rw[hsz];decide),fill_tmp (by rfl) (by rw[hsz];decide)]) (fun us w x L hj hdep hI hd=>?_)
   rw[show us 69=.pointer (some ⟨b2,0,none⟩) from hd 3 (by decide),show us 70=av from hd 4 (by decide),hav]
   have h2:RefR W0 x.F2 b2 s w:=by have:=hI.r2;rwa [hj,if_neg (by decide)] at this
   refine (rdDo_any h2 k tag least most (by have:=hS.lev;omega) hS.top).mono ?_
   rintro e w' hg
   have hans:=hg.ans
   rw[←hy] at hans
   obtain ⟨a',c',S',rfl,e2,hsup⟩:=hans
   exact ⟨_,{ x with F2:=Ext x.F2 w w' },rfl,fun j u hj' hf=>FacR.did hI hj hg hj' hf,⟨a',c',S',rfl,e2,hsup⟩,hI.did hj (hdep 2 (by decide)) hs' hg⟩
  ·exact flowG_step rfl (fun us w x L hj hI hd=>⟨_,_,{ x with g6:=w.heap.size },ralloc_val rfl (vAlloc w),fun k u hk h=>h.own (fun e=>by rw[e,hj] at hk;cases hk) (fun _=>rfl),rfl,hI.own6 hj⟩)
  ·exact flowG_step rfl (fun us w x L hj hI hd=>⟨_,_,{ x with g7:=w.heap.size },ralloc_val rfl (vAlloc w),fun k u hk h=>h.own (fun _=>rfl) (fun e=>by rw[e,hj] at hk;cases hk),rfl,hI.own7 hj⟩)
 ·intro us w' x hI hF
  obtain ⟨a1,c1,e2,hb1⟩:∃ a c,us 68=.agg #[.int .i64 0,.int .i64 y.n,.bool y.is,.slice a y.b.length c,.string (strOf y.t)]∧Sup x.F1 w' (fun W=>Bytes W (.slice a y.b.length c) y.b∧Whole0 (.slice a y.b.length c)):=hF 2 (by decide)
  obtain ⟨a2,c2,S2,e5,eS,hb2⟩:∃ a c S,us 71=.agg #[.int .i64 0,.int .i64 y.n,.bool y.is,.slice a y.b.length c,.string S]∧strL S=y.t∧Sup (ImR W0 x.F2 b2) w' (fun W=>Bytes W (.slice a y.b.length c) y.b∧Whole0 (.slice a y.b.length c)):=hF 5 (by decide)
  have e6:us 10=.pointer (some ⟨x.g6,0,none⟩):=hF 6 (by decide)
  have e7:us 11=.pointer (some ⟨x.g7,0,none⟩):=hF 7 (by decide)
  obtain ⟨k61,k62,k63,k64⟩:=hI.n6 (by decide)
  obtain ⟨k71,k72,k73,k74⟩:=hI.n7 (by decide)
  have hne:x.g6≠x.g7:=hI.ne (by decide) (by decide)
  have hr1:PrR A W0 x.F1 b1 s' w':=by have:=hI.r1;rwa [if_pos (by decide)] at this
  have hr2:RefR W0 x.F2 b2 s' w':=by have:=hI.r2;rwa [if_pos (by decide)] at this
  have hinf:(Tryz.prog.info? 41).map (·.size)=some 5:=by kernel_rfl
  refine wpList_store_row (by rfl) 41 (.tmp 10) (.tmp 68) (by rfl) x.g6 #[.int .i64 0,.int .i64 y.n,.bool y.is,.slice a1 y.b.length c1,.string (strOf y.t)] ((fill_tmp (by rfl) (by rw[hsz];decide)).trans e6) ((fill_tmp (by rfl) (by rw[hsz];decide)).trans e2) _ _ k61 hinf rfl (one5 _ _ _ _ _ _ _) ?_
  obtain ⟨w2,hw2⟩:∃ w2,w2=w'.setRow x.g6 #[.int .i64 0,.int .i64 y.n,.bool y.is,.slice a1 y.b.length c1,.string (strOf y.t)]:=⟨_,rfl⟩
  rw[←hw2]
  have b6:w2.heap[x.g6]?=some (.cells #[.int .i64 0,.int .i64 y.n,.bool y.is,.slice a1 y.b.length c1,.string (strOf y.t)] 41 (0,0)):=by rw[hw2];exact setRow_heap _ _ _ _ _ _ k61
  have b7:w2.heap[x.g7]?=some (.cells vz5 41 (0,0)):=by rw[hw2,setRow_other _ _ _ _ (fun e=>hne e.symm)];exact k71
  refine wpList_store_row (by rfl) 41 (.tmp 11) (.tmp 71) (by rfl) x.g7 #[.int .i64 0,.int .i64 y.n,.bool y.is,.slice a2 y.b.length c2,.string S2] ((fill_tmp (by rfl) (by rw[hsz];decide)).trans e7) ((fill_tmp (by rfl) (by rw[hsz];decide)).trans e5) _ _ b7 hinf rfl (one5 _ _ _ _ _ _ _) ?_
  obtain ⟨w3,hw3⟩:∃ w3,w3=w2.setRow x.g7 #[.int .i64 0,.int .i64 y.n,.bool y.is,.slice a2 y.b.length c2,.string S2]:=⟨_,rfl⟩
  rw[←hw3]
  have u2:Upto (fun j=>j=x.g6∨j=x.g7) w' w2:=by rw[hw2];exact Upto.of_row (row:=some x.g6) (dr_setRow_at _ _ _) (fun j hj=>.inl (.inl (Option.some.inj hj).symm))
  have u3:Upto (fun j=>j=x.g6∨j=x.g7) w2 w3:=by rw[hw3];exact Upto.of_row (row:=some x.g7) (dr_setRow_at _ _ _) (fun j hj=>.inl (.inr (Option.some.inj hj).symm))
  have u:=u2.trans u3 (fun _ _ h=>h)
  have hW0:=hr1.base.size
  have hWs:=hI.siz
  have s3:w3.heap.size=w'.heap.size:=by rw[hw3,hw2];simp
  have lowB:∀ j,B j→j<W.heap.size:=fun j hj=>(hoff j hj).1
  have hlow:∀ j,(j=x.g6∨j=x.g7)→W0.heap.size≤j:=fun j hj=>by rcases hj with rfl|rfl <;> omega
  have ap1:Apart (fun j=>j=x.g6∨j=x.g7) x.F1:=fun j hj hf=>by
   rcases hj with rfl|rfl
   ·exact k63 hf
   ·exact k73 hf
  have ap2:Apart (fun j=>j=x.g6∨j=x.g7) x.F2:=fun j hj hf=>by
   rcases hj with rfl|rfl
   ·exact k64 hf
   ·exact k74 hf
  have f1:=hr1.other (G:=fun j=>j=x.g6∨j=x.g7) (G':=fun j=>j=x.g6∨j=x.g7) hlow ⟨u,fun _ _ h=>h⟩ ap1
  have f2:=hr2.other (G:=fun j=>j=x.g6∨j=x.g7) (G':=fun j=>j=x.g6∨j=x.g7) hlow ⟨u,fun _ _ h=>h⟩ ap2
  have offB:∀ j,B j→¬ (j=x.g6∨j=x.g7):=fun j hj e=>by
   have:=lowB j hj
   rcases e with rfl|rfl <;> omega
  refine hQ us w3 x.g6 x.g7 a1 c1 a2 c2 S2 e6 e7 ⟨x.F1,x.F2,f1,f2,hI.ap,fun j hj=>⟨by have:=(hI.off j hj).1;omega,(hI.off j hj).2⟩⟩ (fun j hj=>?_) ?_ ?_ eS ?_ ?_
  ·rw[u.block j (hI.off j hj).1 (offB j hj)];exact hI.same j hj
  ·rw[hw3,setRow_other _ _ _ _ hne];exact b6
  ·rw[hw3];exact setRow_heap _ _ _ _ _ _ b7
  ·exact (hb1.upto u (fun j hj hf=>ap1 j hf hj)).now.1
  ·refine (hb2.upto u (fun j hj hf=>?_)).now.1
   rcases hj.1 with hj|hj
   ·exact ap2 j hf hj
   ·have:=hlow j hf;omega
end Go.Proofs.YtndkifkhdollgaaGreatDoor
