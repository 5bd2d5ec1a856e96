import Derived.Test.YtndkifkhdollgaaGreatDoorZs33
import Derived.Test.YtndkifkhdollgaaGreatDoorZs34
import Derived.Test.YtndkifkhdollgaaGreatDoorZs36
import Derived.Test.YtndkifkhdollgaaGreatDoorZs37
import Derived.Test.YtndkifkhdollgaaGreatDoorZs39
set_option linter.unusedVariables false
set_option linter.unusedSimpArgs false
set_option maxRecDepth 100000
set_option maxHeartbeats 4000000
namespace Go.Proofs.YtndkifkhdollgaaGreatDoor
open Lib (hid)
open Go.RowKit
theorem rdDo_9 {W0 w:World} {F:Nat→Prop} {b:Nat} {s:De.Rd} (HNx:NxAny W0 b) (h:RefR W0 F b s w) (tag least most:Int) (he:s.e=0) (hs:s.left.length≤1000) (hl:s.top.length≤1000) :
  Calls Tryz.prog 21 #[.pointer (some ⟨b,0,none⟩),.agg #[.int .i64 9,.int .i64 tag,.int .i64 least,.int .i64 most]] w fun e w'=>DoO W0 F b (De.ask s 9 tag least most) w w' e:=by
 have htg:De.tagOf 9=24:=by decide
 have hr:De.ask s 9 tag least most=(match De.next s 24 with
  |(s2,none)=>(s2,De.none0)
  |(s2,some (b,_))=>match De.said 9 least most b with
   |.error e=>({ s2 with e:=e },De.none0)
   |.ok v=>(s2,v)):=by
  unfold De.ask
  rw[if_neg (by omega),if_neg (by decide),if_neg (by decide),if_neg (by decide),htg]
  rfl
 obtain ⟨W2,hW2⟩:∃ W2,W2=do_W w 9 tag least most:=⟨_,rfl⟩
 have hga:w.grownBy W2 none:=by rw[hW2];exact do_W_grown _ _ _ _ _
 have hs2:W2.heap.size=w.heap.size+3:=by rw[hW2];exact do_W_size _ _ _ _ _
 have b0:=do_W_0 w 9 tag least most
 rw[←hW2] at b0
 have b1:=do_W_1 w 9 tag least most
 rw[←hW2] at b1
 have b2:=do_W_2 w 9 tag least most
 rw[←hW2] at b2
 have h2:=h.still hga
 obtain ⟨sb,so,lc,ya,yc,hc,_⟩:=h2.at_top
 have c1:=cell_blk hc 1 rfl
 rw[he] at c1
 have c0:=cell_blk b0 0 rfl
 rw[hW2] at c1 c0
 unfold do_W at c1 c0
 obtain ⟨W3,hW3⟩:∃ W3,W3=(W2.alloc (.cells #[.int .i64 2,.int .i64 10,.int .i64 1,.int .i64 4,.int .i64 12,.int .i64 6,.int .i64 24] 3)):=⟨_,rfl⟩
 have hg3:W2.grownBy W3 none:=by rw[hW3];exact World.grownBy_alloc _ _ _
 have h3:=h2.still hg3
 have HBs:Hid (∀ w5,Upto F W3 w5→w5.heap[w.heap.size]?=some (.cells #[.int .i64 9,.int .i64 tag,.int .i64 least,.int .i64 most] 31 (0,0))∧w5.heap[w.heap.size+1]?=some (.cells #[.int .i64 0,.int .i64 0,.bool false,.slice none 0 0,.string ⟨#[]⟩] 41 (0,0))∧w5.heap[w.heap.size+2]?=some (.cells #[.int .i64 0,.int .i64 0,.bool false,.slice none 0 0,.string ⟨#[]⟩] 41 (0,0))):=hid (fun w5 hu=>by
  have hsz:=hg3.size
  have hb:∀ j,j<W2.heap.size→w.heap.size≤j→w5.heap[j]?=W2.heap[j]?:=fun j hj hj2=>by
   rw[hu.block j (by omega) (fun hf=>by have:=(h.own j hf).2;omega),hg3.block j hj (by simp)]
  exact ⟨by rw[hb _ (by omega) (by omega)];exact b0,by rw[hb _ (by omega) (by omega)];exact b1,by rw[hb _ (by omega) (by omega)];exact b2⟩)
 have hn:=HNx F s W3 24 h3 hs (by omega)
 have HX:=hid h
 have HX3:=hid h3
 have HG3:=hid hg3
 have HW2:=hid hW2
 have HW3:=hid hW3
 have HS3:=hid hs2
 have HI5:Hid ((Tryz.prog.info? 41).map (·.size)=some 5):=hid (by kernel_rfl)
 have HI4:Hid ((Tryz.prog.info? 31).map (·.size)=some 4):=hid (by kernel_rfl)
 have hlen:=hl
 cases hnx:De.next s 24 with
 |mk s2 r =>
 cases r with
 |none =>
  rw[hnx] at hr
  simp only at hr
  rw[hr]
  have HN:Hid (Calls Tryz.prog 69 #[.pointer (some ⟨b,0,none⟩),.int .i64 24] W3 fun e w'=>e=.returned (.tuple #[.slice none 0 0,.slice none 0 0,.bool false])∧Upto F W3 w'∧RefR W0 (Ext F W3 w') b s2 w'):=hid (hn.mono (fun e w' hh=>by
   obtain ⟨q1,q2,q3⟩:=hh
   rw[hnx] at q2 q3
   exact ⟨q3,q1,q2⟩))
  clear hn h h2 h3 hga b0 b1 b2 hc hW2 hW3 hg3 hs2 hr hnx
  go_enter Tryz.func21,Tryz.ntmps21
  go_wp2_with (first
   |(go_at_call 69;have e3:=HW3.out;rw[HW2.out] at e3;unfold do_W at e3;rw[←e3];clear e3;refine HN.out.mono ?_;rintro e w5 ⟨rfl,q1,q2⟩;have Q1:=hid q1;have Q2:=hid q2;clear q1 q2)
   |(refine wpList_load_row (by rfl) 41 (.tmp 5) (by rfl) (w.heap.size+1+1) (by rfl) _ #[.int .i64 0,.int .i64 0,.bool false,.slice none 0 0,.string ⟨#[]⟩] (0,0) _ (HBs.out _ Q1.out).2.2 Tryz.underlying41 (by rfl) HI5.out ?_)
   |(refine wpList_store_row (by rfl) 41 (.tmp 4) (.tmp 145) (by rfl) (w.heap.size+1) #[.int .i64 0,.int .i64 0,.bool false,.slice none 0 0,.string ⟨#[]⟩] (by rfl) (by rfl) _ _ (HBs.out _ Q1.out).2.1 HI5.out rfl (dr_one5 _ _ _ _ _ _ _) ?_;obtain ⟨w6,hw6⟩:∃ w6,w6=w5.setRow (w.heap.size+1) #[.int .i64 0,.int .i64 0,.bool false,.slice none 0 0,.string ⟨#[]⟩]:=⟨_,rfl⟩;rw[←hw6];have HW6:=hid hw6;clear hw6))
  try simp only[Act.put,List.setIfInBounds_toArray,List.set_cons_succ,List.set_cons_zero]
  refine bodyPost_ret (v:=.agg #[.int .i64 0,.int .i64 0,.bool false,.slice none 0 0,.string ⟨#[]⟩]) ?_ rfl (DoO.none3 HX.out HW2.out HG3.out Q1.out Q2.out HW6.out)
  exact results_cell_row Tryz.results21 _ _ (w.heap.size+1) _ _ (0,0) _ rfl (by rw[HW6.out];exact setRow_heap _ _ _ _ _ _ (HBs.out _ Q1.out).2.1) Tryz.underlying41 rfl HI5.out
 |some xy =>
  obtain ⟨x,y⟩:=xy
  rw[hnx] at hr
  simp only at hr
  have hx1:x.length≤1000:=by
   have:=next_short hnx
   omega
  have HN:Hid (Calls Tryz.prog 69 #[.pointer (some ⟨b,0,none⟩),.int .i64 24] W3 fun e w'=>∃ a2 a3 c2 c3,e=.returned (.tuple #[.slice a2 x.length c2,.slice a3 y.length c3,.bool true])∧Upto F W3 w'∧RefR W0 (Ext F W3 w') b s2 w'∧Sup (ImR W0 (Ext F W3 w') b) w' (fun W=>Bytes W (.slice a2 x.length c2) x∧Whole0 (.slice a2 x.length c2))):=hid (hn.mono (fun e w' hh=>by
   obtain ⟨q1,q2,q3⟩:=hh
   rw[hnx] at q2 q3
   obtain ⟨a2,a3,c2,c3,q4,q5⟩:=q3
   exact ⟨a2,a3,c2,c3,q4,q1,q2,q5.map (fun _ h=>h.1)⟩))
  have HSd:Hid (∀ (v:Value) (W:World),Bytes W v x→Calls Tryz.prog 70 #[.agg #[.int .i64 9,.int .i64 tag,.int .i64 least,.int .i64 most],v] W fun e w'=>SaidO v x (De.said 9 least most x) W w' e):=hid (fun v W hB=>refSaid_any v x 9 tag least most hB hx1)
  cases hsd:De.said 9 least most x with
  |error e =>
   rw[hsd] at hr HSd
   simp only at hr
   rw[hr]
   have HSd:Hid (∀ (v:Value) (W:World),Bytes W v x→Calls Tryz.prog 70 #[.agg #[.int .i64 9,.int .i64 tag,.int .i64 least,.int .i64 most],v] W fun e5 w'=>W.grownBy w' none∧∃ (n:Int) (q:Bool) (a:Option Addr) (l c:Nat) (S:ByteArray),e5=.returned (.tuple #[.agg #[.int .i64 0,.int .i64 n,.bool q,.slice a l c,.string S],.int .i64 (e:Nat)])):=hid (fun v W hB=>(HSd.out v W hB).mono (fun e5 w' hh=>by
    obtain ⟨h1,n,q,a,l,c,S,h2,_⟩:=hh
    exact ⟨h1,n,q,a,l,c,S,h2⟩))
   have he0:=said_err hsd
   have hei:((e:Nat):Int)≠0:=by omega
   clear hn h h2 h3 hga b0 b1 b2 hc hW2 hW3 hg3 hs2 hr hnx hsd he0
   go_enter Tryz.func21,Tryz.ntmps21
   go_wp2_with (first
    |(go_at_call 69;have e3:=HW3.out;rw[HW2.out] at e3;unfold do_W at e3;rw[←e3];clear e3;refine HN.out.mono ?_;rintro e5 w5 ⟨a2,a3,c2,c3,rfl,q1,q2,q3⟩;have Q1:=hid q1;have Q2:=hid q2;have Q3:=hid q3;clear q1 q2 q3)
    |(refine wpList_load_row (by rfl) 31 (.tmp 3) (by rfl) w.heap.size (by rfl) _ #[.int .i64 9,.int .i64 tag,.int .i64 least,.int .i64 most] (0,0) _ (HBs.out _ Q1.out).1 Tryz.underlying31 (by rfl) HI4.out ?_)
    |(go_at_call 70;refine (HSd.out _ _ Q3.out.now.1).mono ?_;rintro e5 w7 ⟨hg7,n,q,a,l,c,S,rfl⟩;have hg8:=grown_alloc hg7 (.cells #[.int .i64 0,.int .i64 n,.bool q,.slice a l c,.string S] 41);obtain ⟨_,_,_,_,_,hc5,_⟩:=Q2.out.at_top;have hb8:=(hg8.block _ (blk_lt hc5) (by simp)).trans hc5;have d1:=cell_blk hb8 1 rfl;have f1:=free_blk hb8 1;have HG8:=hid hg8;clear hg7 hg8 hc5 hb8)
    |(refine wpList_load_row (by rfl) 41 (.tmp 5) (by rfl) (w.heap.size+1+1) (by rfl) _ #[.int .i64 0,.int .i64 0,.bool false,.slice none 0 0,.string ⟨#[]⟩] (0,0) _ (HBs.out _ (Q2.out.up9 Q1.out HG8.out e)).2.2 Tryz.underlying41 (by rfl) HI5.out ?_)
    |(obtain ⟨w9,hw9⟩:∃ w9,w9=(w7.alloc (.cells #[.int .i64 0,.int .i64 n,.bool q,.slice a l c,.string S] 41)).setCell ⟨b,1,none⟩ (.int .i64 (e:Nat)):=⟨_,rfl⟩;rw[←hw9];have HU9:Hid (Upto F W3 w9):=hid (by rw[hw9];exact Q2.out.up9 Q1.out HG8.out e);refine wpList_store_row (by rfl) 41 (.tmp 4) (.tmp 158) (by rfl) (w.heap.size+1) #[.int .i64 0,.int .i64 0,.bool false,.slice none 0 0,.string ⟨#[]⟩] (by rfl) (by rfl) _ _ (HBs.out _ HU9.out).2.1 HI5.out rfl (dr_one5 _ _ _ _ _ _ _) ?_;obtain ⟨w6,hw6⟩:∃ w6,w6=w9.setRow (w.heap.size+1) #[.int .i64 0,.int .i64 0,.bool false,.slice none 0 0,.string ⟨#[]⟩]:=⟨_,rfl⟩;rw[←hw6];have HW6:=hid hw6;have HW9:=hid hw9;clear hw6 hw9))
   try simp only[Act.put,List.setIfInBounds_toArray,List.set_cons_succ,List.set_cons_zero]
   refine bodyPost_ret (v:=.agg #[.int .i64 0,.int .i64 0,.bool false,.slice none 0 0,.string ⟨#[]⟩]) ?_ rfl (DoO.err3 HX.out HW2.out HG3.out Q1.out Q2.out HG8.out e HW9.out HW6.out)
   exact results_cell_row Tryz.results21 _ _ (w.heap.size+1) _ _ (0,0) _ rfl (by rw[HW6.out];exact setRow_heap _ _ _ _ _ _ (HBs.out _ HU9.out).2.1) Tryz.underlying41 rfl HI5.out
  |ok v =>
   rw[hsd] at hr HSd
   simp only at hr
   rw[hr]
   have HSd:Hid (∀ (u:Value) (W:World),Bytes W u x→Calls Tryz.prog 70 #[.agg #[.int .i64 9,.int .i64 tag,.int .i64 least,.int .i64 most],u] W fun e5 w'=>W.grownBy w' none∧∃ (n:Int) (q:Bool) (a:Option Addr) (l c:Nat) (S:ByteArray),e5=.returned (.tuple #[.agg #[.int .i64 0,.int .i64 n,.bool q,.slice a l c,.string S],.int .i64 0])∧(v.kind=0∧v.n=n∧v.is=q∧v.t=strL S∧((v.b=[]∧Value.slice a l c=.slice none 0 0)∨(v.b=x∧Value.slice a l c=u)))):=hid (fun u W hB=>(HSd.out u W hB).mono (fun e5 w' hh=>by
    obtain ⟨h1,n,q,a,l,c,S,h2,h3⟩:=hh
    exact ⟨h1,n,q,a,l,c,S,h2,h3 v rfl⟩))
   clear hn h h2 h3 hga b0 b1 b2 hc hW2 hW3 hg3 hs2 hr hnx hsd
   go_enter Tryz.func21,Tryz.ntmps21
   go_wp2_with (first
    |(go_at_call 69;have e3:=HW3.out;rw[HW2.out] at e3;unfold do_W at e3;rw[←e3];clear e3;refine HN.out.mono ?_;rintro e5 w5 ⟨a2,a3,c2,c3,rfl,q1,q2,q3⟩;have Q1:=hid q1;have Q2:=hid q2;have Q3:=hid q3;clear q1 q2 q3)
    |(refine wpList_load_row (by rfl) 31 (.tmp 3) (by rfl) w.heap.size (by rfl) _ #[.int .i64 9,.int .i64 tag,.int .i64 least,.int .i64 most] (0,0) _ (HBs.out _ Q1.out).1 Tryz.underlying31 (by rfl) HI4.out ?_)
    |(go_at_call 70;refine (HSd.out _ _ Q3.out.now.1).mono ?_;rintro e5 w7 ⟨hg7,n,q,a,l,c,S,rfl,hv7⟩;have HV7:=hid hv7;have HG8:=hid (grown_alloc hg7 (.cells #[.int .i64 0,.int .i64 n,.bool q,.slice a l c,.string S] 41));clear hg7 hv7)
    |(obtain ⟨w8,hw8⟩:∃ w8,w8=w7.alloc (.cells #[.int .i64 0,.int .i64 n,.bool q,.slice a l c,.string S] 41):=⟨_,rfl⟩;rw[←hw8];rw[←hw8] at HG8;have HU8:Hid (Upto F W3 w8):=hid (Q1.out.trans (Upto.of_grown F HG8.out) (fun _ _ h=>h));refine wpList_store_row (by rfl) 41 (.tmp 4) (.tmp 159) (by rfl) (w.heap.size+1) #[.int .i64 0,.int .i64 n,.bool q,.slice a l c,.string S] (by rfl) (by rfl) _ _ (HBs.out _ HU8.out).2.1 HI5.out rfl (dr_one5 _ _ _ _ _ _ _) ?_;obtain ⟨w6,hw6⟩:∃ w6,w6=w8.setRow (w.heap.size+1) #[.int .i64 0,.int .i64 n,.bool q,.slice a l c,.string S]:=⟨_,rfl⟩;rw[←hw6];have HW6:=hid hw6;clear hw6 hw8))
   try simp only[Act.put,List.setIfInBounds_toArray,List.set_cons_succ,List.set_cons_zero]
   refine bodyPost_ret (v:=.agg #[.int .i64 0,.int .i64 n,.bool q,.slice a l c,.string S]) ?_ rfl (DoO.some3 HX.out HW2.out HG3.out Q1.out Q2.out HG8.out Q3.out HV7.out HW6.out)
   exact results_cell_row Tryz.results21 _ _ (w.heap.size+1) _ _ (0,0) _ rfl (by rw[HW6.out];exact setRow_heap _ _ _ _ _ _ (HBs.out _ HU8.out).2.1) Tryz.underlying41 rfl HI5.out
theorem rdDo_10a {W0 w:World} {F:Nat→Prop} {b:Nat} {s:De.Rd} (HNx:NxAny W0 b) (h:RefR W0 F b s w) (k:Int) (hk1:k≠1) (hk2:k≠2) (hk11:k≠11) (hk39:k<3) (tag least most:Int) (he:s.e=0) (hs:s.left.length≤1000) (hl:s.top.length≤1000) :
  Calls Tryz.prog 21 #[.pointer (some ⟨b,0,none⟩),.agg #[.int .i64 k,.int .i64 tag,.int .i64 least,.int .i64 most]] w fun e w'=>DoO W0 F b (De.ask s k tag least most) w w' e:=by
 have htg:De.tagOf k=3:=by unfold De.tagOf;rw[if_neg (by omega),if_neg (by omega),if_neg (by omega),if_neg (by omega),if_neg (by omega),if_neg (by omega),if_neg (by omega)]
 have hr:De.ask s k tag least most=(match De.next s 3 with
  |(s2,none)=>(s2,De.none0)
  |(s2,some (b,_))=>match De.said k least most b with
   |.error e=>({ s2 with e:=e },De.none0)
   |.ok v=>(s2,v)):=by
  unfold De.ask
  rw[if_neg (by omega),if_neg hk1,if_neg hk2,if_neg hk11,htg]
  rfl
 obtain ⟨W2,hW2⟩:∃ W2,W2=do_W w k tag least most:=⟨_,rfl⟩
 have hga:w.grownBy W2 none:=by rw[hW2];exact do_W_grown _ _ _ _ _
 have hs2:W2.heap.size=w.heap.size+3:=by rw[hW2];exact do_W_size _ _ _ _ _
 have b0:=do_W_0 w k tag least most
 rw[←hW2] at b0
 have b1:=do_W_1 w k tag least most
 rw[←hW2] at b1
 have b2:=do_W_2 w k tag least most
 rw[←hW2] at b2
 have h2:=h.still hga
 obtain ⟨sb,so,lc,ya,yc,hc,_⟩:=h2.at_top
 have c1:=cell_blk hc 1 rfl
 rw[he] at c1
 have c0:=cell_blk b0 0 rfl
 rw[hW2] at c1 c0
 unfold do_W at c1 c0
 obtain ⟨W3,hW3⟩:∃ W3,W3=W2:=⟨_,rfl⟩
 have hg3:W2.grownBy W3 none:=by rw[hW3];exact grown_refl _ _
 have h3:=h2.still hg3
 have HBs:Hid (∀ w5,Upto F W3 w5→w5.heap[w.heap.size]?=some (.cells #[.int .i64 k,.int .i64 tag,.int .i64 least,.int .i64 most] 31 (0,0))∧w5.heap[w.heap.size+1]?=some (.cells #[.int .i64 0,.int .i64 0,.bool false,.slice none 0 0,.string ⟨#[]⟩] 41 (0,0))∧w5.heap[w.heap.size+2]?=some (.cells #[.int .i64 0,.int .i64 0,.bool false,.slice none 0 0,.string ⟨#[]⟩] 41 (0,0))):=hid (fun w5 hu=>by
  have hsz:=hg3.size
  have hb:∀ j,j<W2.heap.size→w.heap.size≤j→w5.heap[j]?=W2.heap[j]?:=fun j hj hj2=>by
   rw[hu.block j (by omega) (fun hf=>by have:=(h.own j hf).2;omega),hg3.block j hj (by simp)]
  exact ⟨by rw[hb _ (by omega) (by omega)];exact b0,by rw[hb _ (by omega) (by omega)];exact b1,by rw[hb _ (by omega) (by omega)];exact b2⟩)
 have hn:=HNx F s W3 3 h3 hs (by omega)
 have HX:=hid h
 have HX3:=hid h3
 have HG3:=hid hg3
 have HW2:=hid hW2
 have HW3:=hid hW3
 have HS3:=hid hs2
 have HI5:Hid ((Tryz.prog.info? 41).map (·.size)=some 5):=hid (by kernel_rfl)
 have HI4:Hid ((Tryz.prog.info? 31).map (·.size)=some 4):=hid (by kernel_rfl)
 have hlen:=hl
 have e1:((k:Int)==1)=false:=by simpa using hk1
 have e2:((k:Int)==2)=false:=by simpa using hk2
 have e11:((k:Int)==11)=false:=by simpa using hk11
 have hge:¬ (3:Int)≤k:=by omega
 clear hk1 hk2 hk11 hk39
 cases hnx:De.next s 3 with
 |mk s2 r =>
 cases r with
 |none =>
  rw[hnx] at hr
  simp only at hr
  rw[hr]
  have HN:Hid (Calls Tryz.prog 69 #[.pointer (some ⟨b,0,none⟩),.int .i64 3] W3 fun e w'=>e=.returned (.tuple #[.slice none 0 0,.slice none 0 0,.bool false])∧Upto F W3 w'∧RefR W0 (Ext F W3 w') b s2 w'):=hid (hn.mono (fun e w' hh=>by
   obtain ⟨q1,q2,q3⟩:=hh
   rw[hnx] at q2 q3
   exact ⟨q3,q1,q2⟩))
  clear hn h h2 h3 hga b0 b1 b2 hc hW2 hW3 hg3 hs2 hr hnx
  go_enter Tryz.func21,Tryz.ntmps21
  go_wp2_with (first
   |(go_at_call 69;have e3:=HW3.out;rw[HW2.out] at e3;unfold do_W at e3;rw[←e3];clear e3;refine HN.out.mono ?_;rintro e w5 ⟨rfl,q1,q2⟩;have Q1:=hid q1;have Q2:=hid q2;clear q1 q2)
   |(refine wpList_load_row (by rfl) 41 (.tmp 5) (by rfl) (w.heap.size+1+1) (by rfl) _ #[.int .i64 0,.int .i64 0,.bool false,.slice none 0 0,.string ⟨#[]⟩] (0,0) _ (HBs.out _ Q1.out).2.2 Tryz.underlying41 (by rfl) HI5.out ?_)
   |(refine wpList_store_row (by rfl) 41 (.tmp 4) (.tmp 145) (by rfl) (w.heap.size+1) #[.int .i64 0,.int .i64 0,.bool false,.slice none 0 0,.string ⟨#[]⟩] (by rfl) (by rfl) _ _ (HBs.out _ Q1.out).2.1 HI5.out rfl (dr_one5 _ _ _ _ _ _ _) ?_;obtain ⟨w6,hw6⟩:∃ w6,w6=w5.setRow (w.heap.size+1) #[.int .i64 0,.int .i64 0,.bool false,.slice none 0 0,.string ⟨#[]⟩]:=⟨_,rfl⟩;rw[←hw6];have HW6:=hid hw6;clear hw6))
  try simp only[Act.put,List.setIfInBounds_toArray,List.set_cons_succ,List.set_cons_zero]
  refine bodyPost_ret (v:=.agg #[.int .i64 0,.int .i64 0,.bool false,.slice none 0 0,.string ⟨#[]⟩]) ?_ rfl (DoO.none3 HX.out HW2.out HG3.out Q1.out Q2.out HW6.out)
  exact results_cell_row Tryz.results21 _ _ (w.heap.size+1) _ _ (0,0) _ rfl (by rw[HW6.out];exact setRow_heap _ _ _ _ _ _ (HBs.out _ Q1.out).2.1) Tryz.underlying41 rfl HI5.out
 |some xy =>
  obtain ⟨x,y⟩:=xy
  rw[hnx] at hr
  simp only at hr
  have hx1:x.length≤1000:=by
   have:=next_short hnx
   omega
  have HN:Hid (Calls Tryz.prog 69 #[.pointer (some ⟨b,0,none⟩),.int .i64 3] W3 fun e w'=>∃ a2 a3 c2 c3,e=.returned (.tuple #[.slice a2 x.length c2,.slice a3 y.length c3,.bool true])∧Upto F W3 w'∧RefR W0 (Ext F W3 w') b s2 w'∧Sup (ImR W0 (Ext F W3 w') b) w' (fun W=>Bytes W (.slice a2 x.length c2) x∧Whole0 (.slice a2 x.length c2))):=hid (hn.mono (fun e w' hh=>by
   obtain ⟨q1,q2,q3⟩:=hh
   rw[hnx] at q2 q3
   obtain ⟨a2,a3,c2,c3,q4,q5⟩:=q3
   exact ⟨a2,a3,c2,c3,q4,q1,q2,q5.map (fun _ h=>h.1)⟩))
  have HSd:Hid (∀ (v:Value) (W:World),Bytes W v x→Calls Tryz.prog 70 #[.agg #[.int .i64 k,.int .i64 tag,.int .i64 least,.int .i64 most],v] W fun e w'=>SaidO v x (De.said k least most x) W w' e):=hid (fun v W hB=>refSaid_any v x k tag least most hB hx1)
  cases hsd:De.said k least most x with
  |error e =>
   rw[hsd] at hr HSd
   simp only at hr
   rw[hr]
   have HSd:Hid (∀ (v:Value) (W:World),Bytes W v x→Calls Tryz.prog 70 #[.agg #[.int .i64 k,.int .i64 tag,.int .i64 least,.int .i64 most],v] W fun e5 w'=>W.grownBy w' none∧∃ (n:Int) (q:Bool) (a:Option Addr) (l c:Nat) (S:ByteArray),e5=.returned (.tuple #[.agg #[.int .i64 0,.int .i64 n,.bool q,.slice a l c,.string S],.int .i64 (e:Nat)])):=hid (fun v W hB=>(HSd.out v W hB).mono (fun e5 w' hh=>by
    obtain ⟨h1,n,q,a,l,c,S,h2,_⟩:=hh
    exact ⟨h1,n,q,a,l,c,S,h2⟩))
   have he0:=said_err hsd
   have hei:((e:Nat):Int)≠0:=by omega
   clear hn h h2 h3 hga b0 b1 b2 hc hW2 hW3 hg3 hs2 hr hnx hsd he0
   go_enter Tryz.func21,Tryz.ntmps21
   go_wp2_with (first
    |(go_at_call 69;have e3:=HW3.out;rw[HW2.out] at e3;unfold do_W at e3;rw[←e3];clear e3;refine HN.out.mono ?_;rintro e5 w5 ⟨a2,a3,c2,c3,rfl,q1,q2,q3⟩;have Q1:=hid q1;have Q2:=hid q2;have Q3:=hid q3;clear q1 q2 q3)
    |(refine wpList_load_row (by rfl) 31 (.tmp 3) (by rfl) w.heap.size (by rfl) _ #[.int .i64 k,.int .i64 tag,.int .i64 least,.int .i64 most] (0,0) _ (HBs.out _ Q1.out).1 Tryz.underlying31 (by rfl) HI4.out ?_)
    |(go_at_call 70;refine (HSd.out _ _ Q3.out.now.1).mono ?_;rintro e5 w7 ⟨hg7,n,q,a,l,c,S,rfl⟩;have hg8:=grown_alloc hg7 (.cells #[.int .i64 0,.int .i64 n,.bool q,.slice a l c,.string S] 41);obtain ⟨_,_,_,_,_,hc5,_⟩:=Q2.out.at_top;have hb8:=(hg8.block _ (blk_lt hc5) (by simp)).trans hc5;have d1:=cell_blk hb8 1 rfl;have f1:=free_blk hb8 1;have HG8:=hid hg8;clear hg7 hg8 hc5 hb8)
    |(refine wpList_load_row (by rfl) 41 (.tmp 5) (by rfl) (w.heap.size+1+1) (by rfl) _ #[.int .i64 0,.int .i64 0,.bool false,.slice none 0 0,.string ⟨#[]⟩] (0,0) _ (HBs.out _ (Q2.out.up9 Q1.out HG8.out e)).2.2 Tryz.underlying41 (by rfl) HI5.out ?_)
    |(obtain ⟨w9,hw9⟩:∃ w9,w9=(w7.alloc (.cells #[.int .i64 0,.int .i64 n,.bool q,.slice a l c,.string S] 41)).setCell ⟨b,1,none⟩ (.int .i64 (e:Nat)):=⟨_,rfl⟩;rw[←hw9];have HU9:Hid (Upto F W3 w9):=hid (by rw[hw9];exact Q2.out.up9 Q1.out HG8.out e);refine wpList_store_row (by rfl) 41 (.tmp 4) (.tmp 158) (by rfl) (w.heap.size+1) #[.int .i64 0,.int .i64 0,.bool false,.slice none 0 0,.string ⟨#[]⟩] (by rfl) (by rfl) _ _ (HBs.out _ HU9.out).2.1 HI5.out rfl (dr_one5 _ _ _ _ _ _ _) ?_;obtain ⟨w6,hw6⟩:∃ w6,w6=w9.setRow (w.heap.size+1) #[.int .i64 0,.int .i64 0,.bool false,.slice none 0 0,.string ⟨#[]⟩]:=⟨_,rfl⟩;rw[←hw6];have HW6:=hid hw6;have HW9:=hid hw9;clear hw6 hw9))
   try simp only[Act.put,List.setIfInBounds_toArray,List.set_cons_succ,List.set_cons_zero]
   refine bodyPost_ret (v:=.agg #[.int .i64 0,.int .i64 0,.bool false,.slice none 0 0,.string ⟨#[]⟩]) ?_ rfl (DoO.err3 HX.out HW2.out HG3.out Q1.out Q2.out HG8.out e HW9.out HW6.out)
   exact results_cell_row Tryz.results21 _ _ (w.heap.size+1) _ _ (0,0) _ rfl (by rw[HW6.out];exact setRow_heap _ _ _ _ _ _ (HBs.out _ HU9.out).2.1) Tryz.underlying41 rfl HI5.out
  |ok v =>
   rw[hsd] at hr HSd
   simp only at hr
   rw[hr]
   have HSd:Hid (∀ (u:Value) (W:World),Bytes W u x→Calls Tryz.prog 70 #[.agg #[.int .i64 k,.int .i64 tag,.int .i64 least,.int .i64 most],u] W fun e5 w'=>W.grownBy w' none∧∃ (n:Int) (q:Bool) (a:Option Addr) (l c:Nat) (S:ByteArray),e5=.returned (.tuple #[.agg #[.int .i64 0,.int .i64 n,.bool q,.slice a l c,.string S],.int .i64 0])∧(v.kind=0∧v.n=n∧v.is=q∧v.t=strL S∧((v.b=[]∧Value.slice a l c=.slice none 0 0)∨(v.b=x∧Value.slice a l c=u)))):=hid (fun u W hB=>(HSd.out u W hB).mono (fun e5 w' hh=>by
    obtain ⟨h1,n,q,a,l,c,S,h2,h3⟩:=hh
    exact ⟨h1,n,q,a,l,c,S,h2,h3 v rfl⟩))
   clear hn h h2 h3 hga b0 b1 b2 hc hW2 hW3 hg3 hs2 hr hnx hsd
   go_enter Tryz.func21,Tryz.ntmps21
   go_wp2_with (first
    |(go_at_call 69;have e3:=HW3.out;rw[HW2.out] at e3;unfold do_W at e3;rw[←e3];clear e3;refine HN.out.mono ?_;rintro e5 w5 ⟨a2,a3,c2,c3,rfl,q1,q2,q3⟩;have Q1:=hid q1;have Q2:=hid q2;have Q3:=hid q3;clear q1 q2 q3)
    |(refine wpList_load_row (by rfl) 31 (.tmp 3) (by rfl) w.heap.size (by rfl) _ #[.int .i64 k,.int .i64 tag,.int .i64 least,.int .i64 most] (0,0) _ (HBs.out _ Q1.out).1 Tryz.underlying31 (by rfl) HI4.out ?_)
    |(go_at_call 70;refine (HSd.out _ _ Q3.out.now.1).mono ?_;rintro e5 w7 ⟨hg7,n,q,a,l,c,S,rfl,hv7⟩;have HV7:=hid hv7;have HG8:=hid (grown_alloc hg7 (.cells #[.int .i64 0,.int .i64 n,.bool q,.slice a l c,.string S] 41));clear hg7 hv7)
    |(obtain ⟨w8,hw8⟩:∃ w8,w8=w7.alloc (.cells #[.int .i64 0,.int .i64 n,.bool q,.slice a l c,.string S] 41):=⟨_,rfl⟩;rw[←hw8];rw[←hw8] at HG8;have HU8:Hid (Upto F W3 w8):=hid (Q1.out.trans (Upto.of_grown F HG8.out) (fun _ _ h=>h));refine wpList_store_row (by rfl) 41 (.tmp 4) (.tmp 159) (by rfl) (w.heap.size+1) #[.int .i64 0,.int .i64 n,.bool q,.slice a l c,.string S] (by rfl) (by rfl) _ _ (HBs.out _ HU8.out).2.1 HI5.out rfl (dr_one5 _ _ _ _ _ _ _) ?_;obtain ⟨w6,hw6⟩:∃ w6,w6=w8.setRow (w.heap.size+1) #[.int .i64 0,.int .i64 n,.bool q,.slice a l c,.string S]:=⟨_,rfl⟩;rw[←hw6];have HW6:=hid hw6;clear hw6 hw8))
   try simp only[Act.put,List.setIfInBounds_toArray,List.set_cons_succ,List.set_cons_zero]
   refine bodyPost_ret (v:=.agg #[.int .i64 0,.int .i64 n,.bool q,.slice a l c,.string S]) ?_ rfl (DoO.some3 HX.out HW2.out HG3.out Q1.out Q2.out HG8.out Q3.out HV7.out HW6.out)
   exact results_cell_row Tryz.results21 _ _ (w.heap.size+1) _ _ (0,0) _ rfl (by rw[HW6.out];exact setRow_heap _ _ _ _ _ _ (HBs.out _ HU8.out).2.1) Tryz.underlying41 rfl HI5.out
theorem rdDo_10b {W0 w:World} {F:Nat→Prop} {b:Nat} {s:De.Rd} (HNx:NxAny W0 b) (h:RefR W0 F b s w) (k:Int) (hk1:k≠1) (hk2:k≠2) (hk11:k≠11) (hk39:9<k) (tag least most:Int) (he:s.e=0) (hs:s.left.length≤1000) (hl:s.top.length≤1000) :
  Calls Tryz.prog 21 #[.pointer (some ⟨b,0,none⟩),.agg #[.int .i64 k,.int .i64 tag,.int .i64 least,.int .i64 most]] w fun e w'=>DoO W0 F b (De.ask s k tag least most) w w' e:=by
 have htg:De.tagOf k=3:=by unfold De.tagOf;rw[if_neg (by omega),if_neg (by omega),if_neg (by omega),if_neg (by omega),if_neg (by omega),if_neg (by omega),if_neg (by omega)]
 have hr:De.ask s k tag least most=(match De.next s 3 with
  |(s2,none)=>(s2,De.none0)
  |(s2,some (b,_))=>match De.said k least most b with
   |.error e=>({ s2 with e:=e },De.none0)
   |.ok v=>(s2,v)):=by
  unfold De.ask
  rw[if_neg (by omega),if_neg hk1,if_neg hk2,if_neg hk11,htg]
  rfl
 obtain ⟨W2,hW2⟩:∃ W2,W2=do_W w k tag least most:=⟨_,rfl⟩
 have hga:w.grownBy W2 none:=by rw[hW2];exact do_W_grown _ _ _ _ _
 have hs2:W2.heap.size=w.heap.size+3:=by rw[hW2];exact do_W_size _ _ _ _ _
 have b0:=do_W_0 w k tag least most
 rw[←hW2] at b0
 have b1:=do_W_1 w k tag least most
 rw[←hW2] at b1
 have b2:=do_W_2 w k tag least most
 rw[←hW2] at b2
 have h2:=h.still hga
 obtain ⟨sb,so,lc,ya,yc,hc,_⟩:=h2.at_top
 have c1:=cell_blk hc 1 rfl
 rw[he] at c1
 have c0:=cell_blk b0 0 rfl
 rw[hW2] at c1 c0
 unfold do_W at c1 c0
 obtain ⟨W3,hW3⟩:∃ W3,W3=W2:=⟨_,rfl⟩
 have hg3:W2.grownBy W3 none:=by rw[hW3];exact grown_refl _ _
 have h3:=h2.still hg3
 have HBs:Hid (∀ w5,Upto F W3 w5→w5.heap[w.heap.size]?=some (.cells #[.int .i64 k,.int .i64 tag,.int .i64 least,.int .i64 most] 31 (0,0))∧w5.heap[w.heap.size+1]?=some (.cells #[.int .i64 0,.int .i64 0,.bool false,.slice none 0 0,.string ⟨#[]⟩] 41 (0,0))∧w5.heap[w.heap.size+2]?=some (.cells #[.int .i64 0,.int .i64 0,.bool false,.slice none 0 0,.string ⟨#[]⟩] 41 (0,0))):=hid (fun w5 hu=>by
  have hsz:=hg3.size
  have hb:∀ j,j<W2.heap.size→w.heap.size≤j→w5.heap[j]?=W2.heap[j]?:=fun j hj hj2=>by
   rw[hu.block j (by omega) (fun hf=>by have:=(h.own j hf).2;omega),hg3.block j hj (by simp)]
  exact ⟨by rw[hb _ (by omega) (by omega)];exact b0,by rw[hb _ (by omega) (by omega)];exact b1,by rw[hb _ (by omega) (by omega)];exact b2⟩)
 have hn:=HNx F s W3 3 h3 hs (by omega)
 have HX:=hid h
 have HX3:=hid h3
 have HG3:=hid hg3
 have HW2:=hid hW2
 have HW3:=hid hW3
 have HS3:=hid hs2
 have HI5:Hid ((Tryz.prog.info? 41).map (·.size)=some 5):=hid (by kernel_rfl)
 have HI4:Hid ((Tryz.prog.info? 31).map (·.size)=some 4):=hid (by kernel_rfl)
 have hlen:=hl
 have e1:((k:Int)==1)=false:=by simpa using hk1
 have e2:((k:Int)==2)=false:=by simpa using hk2
 have e11:((k:Int)==11)=false:=by simpa using hk11
 have hge:(3:Int)≤k:=by omega
 have hle:¬ k≤(9:Int):=by omega
 clear hk1 hk2 hk11 hk39
 cases hnx:De.next s 3 with
 |mk s2 r =>
 cases r with
 |none =>
  rw[hnx] at hr
  simp only at hr
  rw[hr]
  have HN:Hid (Calls Tryz.prog 69 #[.pointer (some ⟨b,0,none⟩),.int .i64 3] W3 fun e w'=>e=.returned (.tuple #[.slice none 0 0,.slice none 0 0,.bool false])∧Upto F W3 w'∧RefR W0 (Ext F W3 w') b s2 w'):=hid (hn.mono (fun e w' hh=>by
   obtain ⟨q1,q2,q3⟩:=hh
   rw[hnx] at q2 q3
   exact ⟨q3,q1,q2⟩))
  clear hn h h2 h3 hga b0 b1 b2 hc hW2 hW3 hg3 hs2 hr hnx
  go_enter Tryz.func21,Tryz.ntmps21
  go_wp2_with (first
   |(go_at_call 69;have e3:=HW3.out;rw[HW2.out] at e3;unfold do_W at e3;rw[←e3];clear e3;refine HN.out.mono ?_;rintro e w5 ⟨rfl,q1,q2⟩;have Q1:=hid q1;have Q2:=hid q2;clear q1 q2)
   |(refine wpList_load_row (by rfl) 41 (.tmp 5) (by rfl) (w.heap.size+1+1) (by rfl) _ #[.int .i64 0,.int .i64 0,.bool false,.slice none 0 0,.string ⟨#[]⟩] (0,0) _ (HBs.out _ Q1.out).2.2 Tryz.underlying41 (by rfl) HI5.out ?_)
   |(refine wpList_store_row (by rfl) 41 (.tmp 4) (.tmp 145) (by rfl) (w.heap.size+1) #[.int .i64 0,.int .i64 0,.bool false,.slice none 0 0,.string ⟨#[]⟩] (by rfl) (by rfl) _ _ (HBs.out _ Q1.out).2.1 HI5.out rfl (dr_one5 _ _ _ _ _ _ _) ?_;obtain ⟨w6,hw6⟩:∃ w6,w6=w5.setRow (w.heap.size+1) #[.int .i64 0,.int .i64 0,.bool false,.slice none 0 0,.string ⟨#[]⟩]:=⟨_,rfl⟩;rw[←hw6];have HW6:=hid hw6;clear hw6))
  try simp only[Act.put,List.setIfInBounds_toArray,List.set_cons_succ,List.set_cons_zero]
  refine bodyPost_ret (v:=.agg #[.int .i64 0,.int .i64 0,.bool false,.slice none 0 0,.string ⟨#[]⟩]) ?_ rfl (DoO.none3 HX.out HW2.out HG3.out Q1.out Q2.out HW6.out)
  exact results_cell_row Tryz.results21 _ _ (w.heap.size+1) _ _ (0,0) _ rfl (by rw[HW6.out];exact setRow_heap _ _ _ _ _ _ (HBs.out _ Q1.out).2.1) Tryz.underlying41 rfl HI5.out
 |some xy =>
  obtain ⟨x,y⟩:=xy
  rw[hnx] at hr
  simp only at hr
  have hx1:x.length≤1000:=by
   have:=next_short hnx
   omega
  have HN:Hid (Calls Tryz.prog 69 #[.pointer (some ⟨b,0,none⟩),.int .i64 3] W3 fun e w'=>∃ a2 a3 c2 c3,e=.returned (.tuple #[.slice a2 x.length c2,.slice a3 y.length c3,.bool true])∧Upto F W3 w'∧RefR W0 (Ext F W3 w') b s2 w'∧Sup (ImR W0 (Ext F W3 w') b) w' (fun W=>Bytes W (.slice a2 x.length c2) x∧Whole0 (.slice a2 x.length c2))):=hid (hn.mono (fun e w' hh=>by
   obtain ⟨q1,q2,q3⟩:=hh
   rw[hnx] at q2 q3
   obtain ⟨a2,a3,c2,c3,q4,q5⟩:=q3
   exact ⟨a2,a3,c2,c3,q4,q1,q2,q5.map (fun _ h=>h.1)⟩))
  have HSd:Hid (∀ (v:Value) (W:World),Bytes W v x→Calls Tryz.prog 70 #[.agg #[.int .i64 k,.int .i64 tag,.int .i64 least,.int .i64 most],v] W fun e w'=>SaidO v x (De.said k least most x) W w' e):=hid (fun v W hB=>refSaid_any v x k tag least most hB hx1)
  cases hsd:De.said k least most x with
  |error e =>
   rw[hsd] at hr HSd
   simp only at hr
   rw[hr]
   have HSd:Hid (∀ (v:Value) (W:World),Bytes W v x→Calls Tryz.prog 70 #[.agg #[.int .i64 k,.int .i64 tag,.int .i64 least,.int .i64 most],v] W fun e5 w'=>W.grownBy w' none∧∃ (n:Int) (q:Bool) (a:Option Addr) (l c:Nat) (S:ByteArray),e5=.returned (.tuple #[.agg #[.int .i64 0,.int .i64 n,.bool q,.slice a l c,.string S],.int .i64 (e:Nat)])):=hid (fun v W hB=>(HSd.out v W hB).mono (fun e5 w' hh=>by
    obtain ⟨h1,n,q,a,l,c,S,h2,_⟩:=hh
    exact ⟨h1,n,q,a,l,c,S,h2⟩))
   have he0:=said_err hsd
   have hei:((e:Nat):Int)≠0:=by omega
   clear hn h h2 h3 hga b0 b1 b2 hc hW2 hW3 hg3 hs2 hr hnx hsd he0
   go_enter Tryz.func21,Tryz.ntmps21
   go_wp2_with (first
    |(go_at_call 69;have e3:=HW3.out;rw[HW2.out] at e3;unfold do_W at e3;rw[←e3];clear e3;refine HN.out.mono ?_;rintro e5 w5 ⟨a2,a3,c2,c3,rfl,q1,q2,q3⟩;have Q1:=hid q1;have Q2:=hid q2;have Q3:=hid q3;clear q1 q2 q3)
    |(refine wpList_load_row (by rfl) 31 (.tmp 3) (by rfl) w.heap.size (by rfl) _ #[.int .i64 k,.int .i64 tag,.int .i64 least,.int .i64 most] (0,0) _ (HBs.out _ Q1.out).1 Tryz.underlying31 (by rfl) HI4.out ?_)
    |(go_at_call 70;refine (HSd.out _ _ Q3.out.now.1).mono ?_;rintro e5 w7 ⟨hg7,n,q,a,l,c,S,rfl⟩;have hg8:=grown_alloc hg7 (.cells #[.int .i64 0,.int .i64 n,.bool q,.slice a l c,.string S] 41);obtain ⟨_,_,_,_,_,hc5,_⟩:=Q2.out.at_top;have hb8:=(hg8.block _ (blk_lt hc5) (by simp)).trans hc5;have d1:=cell_blk hb8 1 rfl;have f1:=free_blk hb8 1;have HG8:=hid hg8;clear hg7 hg8 hc5 hb8)
    |(refine wpList_load_row (by rfl) 41 (.tmp 5) (by rfl) (w.heap.size+1+1) (by rfl) _ #[.int .i64 0,.int .i64 0,.bool false,.slice none 0 0,.string ⟨#[]⟩] (0,0) _ (HBs.out _ (Q2.out.up9 Q1.out HG8.out e)).2.2 Tryz.underlying41 (by rfl) HI5.out ?_)
    |(obtain ⟨w9,hw9⟩:∃ w9,w9=(w7.alloc (.cells #[.int .i64 0,.int .i64 n,.bool q,.slice a l c,.string S] 41)).setCell ⟨b,1,none⟩ (.int .i64 (e:Nat)):=⟨_,rfl⟩;rw[←hw9];have HU9:Hid (Upto F W3 w9):=hid (by rw[hw9];exact Q2.out.up9 Q1.out HG8.out e);refine wpList_store_row (by rfl) 41 (.tmp 4) (.tmp 158) (by rfl) (w.heap.size+1) #[.int .i64 0,.int .i64 0,.bool false,.slice none 0 0,.string ⟨#[]⟩] (by rfl) (by rfl) _ _ (HBs.out _ HU9.out).2.1 HI5.out rfl (dr_one5 _ _ _ _ _ _ _) ?_;obtain ⟨w6,hw6⟩:∃ w6,w6=w9.setRow (w.heap.size+1) #[.int .i64 0,.int .i64 0,.bool false,.slice none 0 0,.string ⟨#[]⟩]:=⟨_,rfl⟩;rw[←hw6];have HW6:=hid hw6;have HW9:=hid hw9;clear hw6 hw9))
   try simp only[Act.put,List.setIfInBounds_toArray,List.set_cons_succ,List.set_cons_zero]
   refine bodyPost_ret (v:=.agg #[.int .i64 0,.int .i64 0,.bool false,.slice none 0 0,.string ⟨#[]⟩]) ?_ rfl (DoO.err3 HX.out HW2.out HG3.out Q1.out Q2.out HG8.out e HW9.out HW6.out)
   exact results_cell_row Tryz.results21 _ _ (w.heap.size+1) _ _ (0,0) _ rfl (by rw[HW6.out];exact setRow_heap _ _ _ _ _ _ (HBs.out _ HU9.out).2.1) Tryz.underlying41 rfl HI5.out
  |ok v =>
   rw[hsd] at hr HSd
   simp only at hr
   rw[hr]
   have HSd:Hid (∀ (u:Value) (W:World),Bytes W u x→Calls Tryz.prog 70 #[.agg #[.int .i64 k,.int .i64 tag,.int .i64 least,.int .i64 most],u] W fun e5 w'=>W.grownBy w' none∧∃ (n:Int) (q:Bool) (a:Option Addr) (l c:Nat) (S:ByteArray),e5=.returned (.tuple #[.agg #[.int .i64 0,.int .i64 n,.bool q,.slice a l c,.string S],.int .i64 0])∧(v.kind=0∧v.n=n∧v.is=q∧v.t=strL S∧((v.b=[]∧Value.slice a l c=.slice none 0 0)∨(v.b=x∧Value.slice a l c=u)))):=hid (fun u W hB=>(HSd.out u W hB).mono (fun e5 w' hh=>by
    obtain ⟨h1,n,q,a,l,c,S,h2,h3⟩:=hh
    exact ⟨h1,n,q,a,l,c,S,h2,h3 v rfl⟩))
   clear hn h h2 h3 hga b0 b1 b2 hc hW2 hW3 hg3 hs2 hr hnx hsd
   go_enter Tryz.func21,Tryz.ntmps21
   go_wp2_with (first
    |(go_at_call 69;have e3:=HW3.out;rw[HW2.out] at e3;unfold do_W at e3;rw[←e3];clear e3;refine HN.out.mono ?_;rintro e5 w5 ⟨a2,a3,c2,c3,rfl,q1,q2,q3⟩;have Q1:=hid q1;have Q2:=hid q2;have Q3:=hid q3;clear q1 q2 q3)
    |(refine wpList_load_row (by rfl) 31 (.tmp 3) (by rfl) w.heap.size (by rfl) _ #[.int .i64 k,.int .i64 tag,.int .i64 least,.int .i64 most] (0,0) _ (HBs.out _ Q1.out).1 Tryz.underlying31 (by rfl) HI4.out ?_)
    |(go_at_call 70;refine (HSd.out _ _ Q3.out.now.1).mono ?_;rintro e5 w7 ⟨hg7,n,q,a,l,c,S,rfl,hv7⟩;have HV7:=hid hv7;have HG8:=hid (grown_alloc hg7 (.cells #[.int .i64 0,.int .i64 n,.bool q,.slice a l c,.string S] 41));clear hg7 hv7)
    |(obtain ⟨w8,hw8⟩:∃ w8,w8=w7.alloc (.cells #[.int .i64 0,.int .i64 n,.bool q,.slice a l c,.string S] 41):=⟨_,rfl⟩;rw[←hw8];rw[←hw8] at HG8;have HU8:Hid (Upto F W3 w8):=hid (Q1.out.trans (Upto.of_grown F HG8.out) (fun _ _ h=>h));refine wpList_store_row (by rfl) 41 (.tmp 4) (.tmp 159) (by rfl) (w.heap.size+1) #[.int .i64 0,.int .i64 n,.bool q,.slice a l c,.string S] (by rfl) (by rfl) _ _ (HBs.out _ HU8.out).2.1 HI5.out rfl (dr_one5 _ _ _ _ _ _ _) ?_;obtain ⟨w6,hw6⟩:∃ w6,w6=w8.setRow (w.heap.size+1) #[.int .i64 0,.int .i64 n,.bool q,.slice a l c,.string S]:=⟨_,rfl⟩;rw[←hw6];have HW6:=hid hw6;clear hw6 hw8))
   try simp only[Act.put,List.setIfInBounds_toArray,List.set_cons_succ,List.set_cons_zero]
   refine bodyPost_ret (v:=.agg #[.int .i64 0,.int .i64 n,.bool q,.slice a l c,.string S]) ?_ rfl (DoO.some3 HX.out HW2.out HG3.out Q1.out Q2.out HG8.out Q3.out HV7.out HW6.out)
   exact results_cell_row Tryz.results21 _ _ (w.heap.size+1) _ _ (0,0) _ rfl (by rw[HW6.out];exact setRow_heap _ _ _ _ _ _ (HBs.out _ HU8.out).2.1) Tryz.underlying41 rfl HI5.out
theorem rdNext_any {W0:World} {b:Nat}:NxAny W0 b:=by
 intro F s w tag h hs hl
 cases hno:(De.next s tag).2 with
 |none =>
  refine (rdNext_no h (by omega) hl tag hno).mono ?_
  rintro e w' ⟨q1,q2,q3⟩
  exact ⟨q2,q3,by rw[hno];exact q1⟩
 |some xy =>
  obtain ⟨x,y⟩:=xy
  have he:s.e=0:=by
   unfold De.next at hno
   split at hno
   ·cases hno
   ·omega
  cases hf:Tl.first s.top with
  |error k=>unfold De.next at hno;rw[if_neg (by omega),hf] at hno;cases hno
  |ok p =>
   obtain ⟨t,i,n⟩:=p
   have hnx:=hno
   unfold De.next at hnx
   rw[if_neg (by omega),hf] at hnx
   simp only at hnx
   by_cases ht:tag≠0∧(t:Int)≠tag
   ·rw[if_pos ht] at hnx;cases hnx
   ·have hn1:De.next s tag=({ s with top:=s.top.drop (i+n) },some ((s.top.drop i).take n,s.top.take (i+n))):=by
     unfold De.next;rw[if_neg (by omega),hf];simp only;rw[if_neg ht]
    have fin:∀ e w',(∃ u v,e=Ending.returned (.tuple #[u,v,.bool true])∧Upto F w w'∧RefR W0 (Ext F w w') b { s with top:=s.top.drop (i+n) } w' ∧
      Sup (ImR W0 (Ext F w w') b) w' (fun W=>(Bytes W u ((s.top.drop i).take n)∧Whole0 u)∧Bytes W v (s.top.take (i+n))∧Whole0 v))→NxO W0 F b s tag w w' e:=by
     rintro e w' ⟨u,v,rfl,q1,q2,q3⟩
     have hnow:=q3.now
     obtain ⟨_,a,_,_,c,rfl,_⟩:=hnow.1.1
     obtain ⟨_,a',_,_,c',rfl,_⟩:=hnow.2.1
     refine ⟨q1,by rw[hn1];exact q2,?_⟩
     rw[hn1]
     exact ⟨a,a',c,c',rfl,q3⟩
    by_cases h0:tag=0
    ·exact (rdNext_ok h hs hl tag he hf h0).mono fin
    ·exact (rdNext_ok2 h hs hl tag he hf (by
      rcases Decidable.em ((t:Int)=tag) with h|h
      ·exact h
      ·exact absurd ⟨h0,h⟩ ht)).mono fin
theorem rdDo_11 {W0 w:World} {F:Nat→Prop} {b:Nat} {s:De.Rd} (HNx:NxAny W0 b) (h:RefR W0 F b s w) (tag least most:Int) (he:s.e=0) (hs:s.left.length≤1000) (hl:s.top.length≤1000) :
  Calls Tryz.prog 21 #[.pointer (some ⟨b,0,none⟩),.agg #[.int .i64 11,.int .i64 tag,.int .i64 least,.int .i64 most]] w fun e w'=>DoO W0 F b (De.ask s 11 tag least most) w w' e:=by
 have hr:De.ask s 11 tag least most=(match De.next s 0 with
  |(s2,none)=>(s2,De.none0)
  |(s2,some (_,b))=>(s2,{ De.none0 with b:=b })):=by
  unfold De.ask
  rw[if_neg (by omega),if_neg (by decide),if_neg (by decide),if_pos rfl]
  rfl
 obtain ⟨W2,hW2⟩:∃ W2,W2=do_W w 11 tag least most:=⟨_,rfl⟩
 have hga:w.grownBy W2 none:=by rw[hW2];exact do_W_grown _ _ _ _ _
 have hs2:W2.heap.size=w.heap.size+3:=by rw[hW2];exact do_W_size _ _ _ _ _
 have b0:=do_W_0 w 11 tag least most
 rw[←hW2] at b0
 have b1:=do_W_1 w 11 tag least most
 rw[←hW2] at b1
 have b2:=do_W_2 w 11 tag least most
 rw[←hW2] at b2
 have h2:=h.still hga
 obtain ⟨sb,so,lc,ya,yc,hc,_⟩:=h2.at_top
 have c1:=cell_blk hc 1 rfl
 rw[he] at c1
 have c0:=cell_blk b0 0 rfl
 rw[hW2] at c1 c0
 unfold do_W at c1 c0
 obtain ⟨W3,hW3⟩:∃ W3,W3=W2:=⟨_,rfl⟩
 have hg3:W2.grownBy W3 none:=by rw[hW3];exact grown_refl _ _
 have h3:=h2.still hg3
 have HBs:Hid (∀ w5,Upto F W3 w5→w5.heap[w.heap.size]?=some (.cells #[.int .i64 11,.int .i64 tag,.int .i64 least,.int .i64 most] 31 (0,0))∧w5.heap[w.heap.size+1]?=some (.cells #[.int .i64 0,.int .i64 0,.bool false,.slice none 0 0,.string ⟨#[]⟩] 41 (0,0))∧w5.heap[w.heap.size+2]?=some (.cells #[.int .i64 0,.int .i64 0,.bool false,.slice none 0 0,.string ⟨#[]⟩] 41 (0,0))):=hid (fun w5 hu=>by
  have hsz:=hg3.size
  have hb:∀ j,j<W2.heap.size→w.heap.size≤j→w5.heap[j]?=W2.heap[j]?:=fun j hj hj2=>by
   rw[hu.block j (by omega) (fun hf=>by have:=(h.own j hf).2;omega),hg3.block j hj (by simp)]
  exact ⟨by rw[hb _ (by omega) (by omega)];exact b0,by rw[hb _ (by omega) (by omega)];exact b1,by rw[hb _ (by omega) (by omega)];exact b2⟩)
 have hn:=HNx F s W3 0 h3 hs (by omega)
 have HX:=hid h
 have HX3:=hid h3
 have HG3:=hid hg3
 have HW2:=hid hW2
 have HW3:=hid hW3
 have HS3:=hid hs2
 have HI5:Hid ((Tryz.prog.info? 41).map (·.size)=some 5):=hid (by kernel_rfl)
 have HI4:Hid ((Tryz.prog.info? 31).map (·.size)=some 4):=hid (by kernel_rfl)
 have hlen:=hl
 cases hnx:De.next s 0 with
 |mk s2 r =>
 cases r with
 |none =>
  rw[hnx] at hr
  simp only at hr
  rw[hr]
  have HN:Hid (Calls Tryz.prog 69 #[.pointer (some ⟨b,0,none⟩),.int .i64 0] W3 fun e w'=>e=.returned (.tuple #[.slice none 0 0,.slice none 0 0,.bool false])∧Upto F W3 w'∧RefR W0 (Ext F W3 w') b s2 w'):=hid (hn.mono (fun e w' hh=>by
   obtain ⟨q1,q2,q3⟩:=hh
   rw[hnx] at q2 q3
   exact ⟨q3,q1,q2⟩))
  clear hn h h2 h3 hga b0 b1 b2 hc hW2 hW3 hg3 hs2 hr hnx
  go_enter Tryz.func21,Tryz.ntmps21
  go_wp2_with (first
   |(go_at_call 69;have e3:=HW3.out;rw[HW2.out] at e3;unfold do_W at e3;rw[←e3];clear e3;refine HN.out.mono ?_;rintro e w5 ⟨rfl,q1,q2⟩;have Q1:=hid q1;have Q2:=hid q2;clear q1 q2)
   |(refine wpList_store_row (by rfl) 41 (.tmp 4) (.tmp 121) (by rfl) (w.heap.size+1) #[.int .i64 0,.int .i64 0,.bool false,.slice none 0 0,.string ⟨#[]⟩] (by rfl) (by rfl) _ _ (HBs.out _ Q1.out).2.1 HI5.out rfl (dr_one5 _ _ _ _ _ _ _) ?_;obtain ⟨w6,hw6⟩:∃ w6,w6=w5.setRow (w.heap.size+1) #[.int .i64 0,.int .i64 0,.bool false,.slice none 0 0,.string ⟨#[]⟩]:=⟨_,rfl⟩;rw[←hw6];have HW6:=hid hw6;clear hw6))
  try simp only[Act.put,List.setIfInBounds_toArray,List.set_cons_succ,List.set_cons_zero]
  refine bodyPost_ret (v:=.agg #[.int .i64 0,.int .i64 0,.bool false,.slice none 0 0,.string ⟨#[]⟩]) ?_ rfl (DoO.none3 HX.out HW2.out HG3.out Q1.out Q2.out HW6.out)
  exact results_cell_row Tryz.results21 _ _ (w.heap.size+1) _ _ (0,0) _ rfl (by rw[HW6.out];exact setRow_heap _ _ _ _ _ _ (HBs.out _ Q1.out).2.1) Tryz.underlying41 rfl HI5.out
 |some xy =>
  obtain ⟨x,y⟩:=xy
  rw[hnx] at hr
  simp only at hr
  rw[hr]
  have HN:Hid (Calls Tryz.prog 69 #[.pointer (some ⟨b,0,none⟩),.int .i64 0] W3 fun e w'=>∃ a2 a3 c2 c3,e=.returned (.tuple #[.slice a2 x.length c2,.slice a3 y.length c3,.bool true])∧Upto F W3 w'∧RefR W0 (Ext F W3 w') b s2 w'∧Sup (ImR W0 (Ext F W3 w') b) w' (fun W=>Bytes W (.slice a3 y.length c3) y∧Whole0 (.slice a3 y.length c3))):=hid (hn.mono (fun e w' hh=>by
   obtain ⟨q1,q2,q3⟩:=hh
   rw[hnx] at q2 q3
   obtain ⟨a2,a3,c2,c3,q4,q5⟩:=q3
   exact ⟨a2,a3,c2,c3,q4,q1,q2,q5.map (fun _ h=>h.2)⟩))
  clear hn h h2 h3 hga b0 b1 b2 hc hW2 hW3 hg3 hs2 hr hnx
  go_enter Tryz.func21,Tryz.ntmps21
  go_wp2_with (first
   |(go_at_call 69;have e3:=HW3.out;rw[HW2.out] at e3;unfold do_W at e3;rw[←e3];clear e3;refine HN.out.mono ?_;rintro e5 w5 ⟨a2,a3,c2,c3,rfl,q1,q2,q3⟩;have Q1:=hid q1;have Q2:=hid q2;have Q3:=hid q3;clear q1 q2 q3)
   |(refine wpList_store_row (by rfl) 41 (.tmp 4) (.tmp 121) (by rfl) (w.heap.size+1) #[.int .i64 0,.int .i64 0,.bool false,.slice a3 y.length c3,.string ⟨#[]⟩] (by rfl) (by rfl) _ _ (HBs.out _ Q1.out).2.1 HI5.out rfl (dr_one5 _ _ _ _ _ _ _) ?_;obtain ⟨w6,hw6⟩:∃ w6,w6=w5.setRow (w.heap.size+1) #[.int .i64 0,.int .i64 0,.bool false,.slice a3 y.length c3,.string ⟨#[]⟩]:=⟨_,rfl⟩;rw[←hw6];have HW6:=hid hw6;clear hw6))
  try simp only[Act.put,List.setIfInBounds_toArray,List.set_cons_succ,List.set_cons_zero]
  refine bodyPost_ret (v:=.agg #[.int .i64 0,.int .i64 0,.bool false,.slice a3 y.length c3,.string ⟨#[]⟩]) ?_ rfl (DoO.some3 HX.out HW2.out HG3.out Q1.out Q2.out (grown_refl _ _) Q3.out ⟨rfl,rfl,rfl,rfl,.inr ⟨rfl,rfl⟩⟩ HW6.out)
  exact results_cell_row Tryz.results21 _ _ (w.heap.size+1) _ _ (0,0) _ rfl (by rw[HW6.out];exact setRow_heap _ _ _ _ _ _ (HBs.out _ Q1.out).2.1) Tryz.underlying41 rfl HI5.out
theorem RefR.pop {W0 w:World} {F:Nat→Prop} {b:Nat} {s:De.Rd} (h:RefR W0 F b s w) {l0:List Nat} {r:List (List Nat)} (hl:s.left=l0 :: r) :
  ∃ sb so lc,w.heap[b]?=some (.cells #[.slice (some ⟨sb,so,none⟩) (s.left.length+1) lc,.int .i64 (s.e:Nat)] 39 (0,0))∧s.left.length+1≤lc∧sb<w.heap.size∧(∃ ya yc,w.cell? ⟨sb,so+s.left.length,none⟩=some (.slice ya s.top.length yc)) ∧
   ∀ w1,w1=w.setCell ⟨b,0,none⟩ (.slice (some ⟨sb,so,none⟩) s.left.length lc)→Upto F w w1∧RefR W0 (Ext F w w1) b { s with top:=l0,left:=r } w1:=by
 obtain ⟨sb,so,lc,ya,yc,hc,hlc,hsb,hcy,_⟩:=h.at_top
 refine ⟨sb,so,lc,hc,hlc,hsb,⟨ya,yc,hcy⟩,fun w1 hw1=>?_⟩
 obtain ⟨lv,h1,ys,hy⟩:=h.body
 have hlv:lv=.slice (some ⟨sb,so,none⟩) (s.left.length+1) lc:=by
  rw[hc] at h1
  simp only[Option.some.injEq,Obj.cells.injEq,Array.mk.injEq,List.cons.injEq] at h1
  exact h1.1.1.symm
 subst hlv
 have hs:w1.heap.size=w.heap.size:=by rw[hw1];exact setCell_size _ _ _
 have hub:Upto (fun k=>k=b) w w1:=by rw[hw1];exact ⟨rfl,rfl,rfl,by rw[setCell_size];exact Nat.le_refl _,fun k hk hmu=>Below.heap_setCell _ _ _ _ (fun e=>hmu e)⟩
 have hu:Upto F w w1:=hub.mono (fun k _ hk=>by rw[hk];exact h.mem)
 have hR:RefR W0 F b { s with top:=l0,left:=r } w1:=by
  refine ⟨hu.base h.base (fun k hk=>(h.own k hk).1),fun k hk=>by rw[hs];exact h.own k hk,h.mem,.slice (some ⟨sb,so,none⟩) s.left.length lc,?_,ys.take s.left.length,(hy.upto hub (fun k hk=>hk.2)).map (fun W hW=>?_)⟩
  ·rw[hw1]
   have:=setCell_heap (i:=0) hc (.slice (some ⟨sb,so,none⟩) s.left.length lc)
   simpa using this
  ·obtain ⟨hV,hE,_⟩:=hW
   have t1:=hE.take s.left.length
   rw[List.take_left' (by simp)] at t1
   have e:s.left.reverse=r.reverse++[l0]:=by rw[hl];simp
   rw[e] at t1
   exact ⟨hV.to s.left.length (by omega),t1,Whole0.some _ _ _⟩
 exact ⟨hu,hR.wide (fun k hk=>.inl hk) (ext_own h.base h.own hu.size)⟩
theorem rdDo_2a {W0 w:World} {F:Nat→Prop} {b:Nat} {s:De.Rd} (h:RefR W0 F b s w) (tag least most:Int) (he:s.e=0) (hs:s.left.length≤1000) (hlf:s.left=[]) :
  Calls Tryz.prog 21 #[.pointer (some ⟨b,0,none⟩),.agg #[.int .i64 2,.int .i64 tag,.int .i64 least,.int .i64 most]] w fun e w'=>DoO W0 F b (De.leave s,De.none0) w w' e:=by
 have hlv:De.leave s={ s with e:=24 }:=by unfold De.leave;rw[if_neg (by omega),hlf]
 obtain ⟨W2,hW2⟩:∃ W2,W2=do_W w 2 tag least most:=⟨_,rfl⟩
 have hga:w.grownBy W2 none:=by rw[hW2];exact do_W_grown _ _ _ _ _
 have hs2:W2.heap.size=w.heap.size+3:=by rw[hW2];exact do_W_size _ _ _ _ _
 have hbl:=(h.own b h.mem).2
 have b0:=do_W_0 w 2 tag least most
 rw[←hW2] at b0
 have b1:=do_W_1 w 2 tag least most
 rw[←hW2] at b1
 have b2:=do_W_2 w 2 tag least most
 rw[←hW2] at b2
 have h2:=h.still hga
 have HBk:Hid (∀ (i:Nat) (u:Value),(W2.setCell ⟨b,i,none⟩ u).heap[w.heap.size+1]?=some (.cells #[.int .i64 0,.int .i64 0,.bool false,.slice none 0 0,.string ⟨#[]⟩] 41 (0,0))∧(W2.setCell ⟨b,i,none⟩ u).heap[w.heap.size+2]?=some (.cells #[.int .i64 0,.int .i64 0,.bool false,.slice none 0 0,.string ⟨#[]⟩] 41 (0,0))):=hid (fun i u=>by
  constructor
  ·rw[Below.heap_setCell _ _ _ _ (fun e=>by have:w.heap.size+1=b:=e;omega)];exact b1
  ·rw[Below.heap_setCell _ _ _ _ (fun e=>by have:w.heap.size+2=b:=e;omega)];exact b2)
 obtain ⟨sb,so,lc,ya,yc,hc,hlc,hsb,hcy,_⟩:=h2.at_top
 have c1:=cell_blk hc 1 rfl
 have c00:=cell_blk hc 0 rfl
 have f1:=free_blk hc 1
 have f0:=free_blk hc 0
 rw[he] at c1
 have c0:=cell_blk b0 0 rfl
 rw[hW2] at c1 c0 c00 f1 f0 hcy
 unfold do_W at c1 c0 c00 f1 f0 hcy
 obtain ⟨N,hN⟩:∃ N,N=s.left.length:=⟨_,rfl⟩
 rw[←hN] at c00 hcy hlc hs
 have hw1:IntKind.i64.wrap (((N+1:Nat):Int)-1)=(N:Int):=by
  simp only[IntKind.wrap,IntKind.bits,IntKind.signed]
  simp
  omega
 have HX:=hid h
 have HX2:=hid h2
 have HW2:=hid hW2
 have HI5:Hid ((Tryz.prog.info? 41).map (·.size)=some 5):=hid (by kernel_rfl)
 obtain rfl:N=0:=by rw[hN,hlf];rfl
 have HL:=hid hlv
 clear h h2 hga b0 b1 b2 hc hW2 hs2 hN hlv hlf he hs
 go_enter Tryz.func21,Tryz.ntmps21
 go_wp2_with (first
  |(have e3:=HW2.out;unfold do_W at e3;rw[←e3];clear e3;refine wpList_load_row (by rfl) 41 (.tmp 5) (by rfl) (w.heap.size+1+1) (by rfl) _ #[.int .i64 0,.int .i64 0,.bool false,.slice none 0 0,.string ⟨#[]⟩] (0,0) _ (HBk.out _ _).2 Tryz.underlying41 (by rfl) HI5.out ?_;obtain ⟨w9,hw9⟩:∃ w9,w9=W2.setCell ⟨b,1,none⟩ (.int .i64 24):=⟨_,rfl⟩;rw[←hw9];have hb9:w9.heap[w.heap.size+1]?=some (.cells #[.int .i64 0,.int .i64 0,.bool false,.slice none 0 0,.string ⟨#[]⟩] 41 (0,0)):=(by rw[hw9];exact (HBk.out _ _).1);have HB9:=hid hb9;have HW9:Hid (w9=W2.setCell ⟨b,1,none⟩ (.int .i64 ((24:Nat):Int))):=hid hw9;clear hw9 hb9)
  |(refine wpList_store_row (by rfl) 41 (.tmp 4) (.tmp 111) (by rfl) (w.heap.size+1) #[.int .i64 0,.int .i64 0,.bool false,.slice none 0 0,.string ⟨#[]⟩] (by rfl) (by rfl) _ _ HB9.out HI5.out rfl (dr_one5 _ _ _ _ _ _ _) ?_;obtain ⟨w6,hw6⟩:∃ w6,w6=w9.setRow (w.heap.size+1) #[.int .i64 0,.int .i64 0,.bool false,.slice none 0 0,.string ⟨#[]⟩]:=⟨_,rfl⟩;rw[←hw6];have HW6:=hid hw6;clear hw6))
 try simp only[Act.put,List.setIfInBounds_toArray,List.set_cons_succ,List.set_cons_zero]
 refine bodyPost_ret (v:=.agg #[.int .i64 0,.int .i64 0,.bool false,.slice none 0 0,.string ⟨#[]⟩]) ?_ rfl (by rw[HL.out];exact DoO.err3 HX.out HW2.out (grown_refl _ _) (Upto.refl F W2) (HX2.out.wide (fun j hj=>.inl hj) (ext_own HX2.out.base HX2.out.own (Nat.le_refl _))) (grown_refl _ _) 24 HW9.out HW6.out)
 exact results_cell_row Tryz.results21 _ _ (w.heap.size+1) _ _ (0,0) _ rfl (by rw[HW6.out];exact setRow_heap _ _ _ _ _ _ HB9.out) Tryz.underlying41 rfl HI5.out
theorem rdDo_2b {W0 w:World} {F:Nat→Prop} {b:Nat} {s:De.Rd} (h:RefR W0 F b s w) (tag least most:Int) (he:s.e=0) (hs:s.left.length≤1000) {l0:List Nat} {r:List (List Nat)} (hlf:s.left=l0 :: r) (htp:s.top≠[]) :
  Calls Tryz.prog 21 #[.pointer (some ⟨b,0,none⟩),.agg #[.int .i64 2,.int .i64 tag,.int .i64 least,.int .i64 most]] w fun e w'=>DoO W0 F b (De.leave s,De.none0) w w' e:=by
 have hlv:De.leave s={ s with e:=4 }:=by unfold De.leave;rw[if_neg (by omega),hlf];simp only;rw[if_pos htp]
 obtain ⟨W2,hW2⟩:∃ W2,W2=do_W w 2 tag least most:=⟨_,rfl⟩
 have hga:w.grownBy W2 none:=by rw[hW2];exact do_W_grown _ _ _ _ _
 have hs2:W2.heap.size=w.heap.size+3:=by rw[hW2];exact do_W_size _ _ _ _ _
 have hbl:=(h.own b h.mem).2
 have b0:=do_W_0 w 2 tag least most
 rw[←hW2] at b0
 have b1:=do_W_1 w 2 tag least most
 rw[←hW2] at b1
 have b2:=do_W_2 w 2 tag least most
 rw[←hW2] at b2
 have h2:=h.still hga
 have HBk:Hid (∀ (i:Nat) (u:Value),(W2.setCell ⟨b,i,none⟩ u).heap[w.heap.size+1]?=some (.cells #[.int .i64 0,.int .i64 0,.bool false,.slice none 0 0,.string ⟨#[]⟩] 41 (0,0))∧(W2.setCell ⟨b,i,none⟩ u).heap[w.heap.size+2]?=some (.cells #[.int .i64 0,.int .i64 0,.bool false,.slice none 0 0,.string ⟨#[]⟩] 41 (0,0))):=hid (fun i u=>by
  constructor
  ·rw[Below.heap_setCell _ _ _ _ (fun e=>by have:w.heap.size+1=b:=e;omega)];exact b1
  ·rw[Below.heap_setCell _ _ _ _ (fun e=>by have:w.heap.size+2=b:=e;omega)];exact b2)
 obtain ⟨sb,so,lc,ya,yc,hc,hlc,hsb,hcy,_⟩:=h2.at_top
 have c1:=cell_blk hc 1 rfl
 have c00:=cell_blk hc 0 rfl
 have f1:=free_blk hc 1
 have f0:=free_blk hc 0
 rw[he] at c1
 have c0:=cell_blk b0 0 rfl
 rw[hW2] at c1 c0 c00 f1 f0 hcy
 unfold do_W at c1 c0 c00 f1 f0 hcy
 obtain ⟨N,hN⟩:∃ N,N=s.left.length:=⟨_,rfl⟩
 rw[←hN] at c00 hcy hlc hs
 have hw1:IntKind.i64.wrap (((N+1:Nat):Int)-1)=(N:Int):=by
  simp only[IntKind.wrap,IntKind.bits,IntKind.signed]
  simp
  omega
 have HX:=hid h
 have HX2:=hid h2
 have HW2:=hid hW2
 have HI5:Hid ((Tryz.prog.info? 41).map (·.size)=some 5):=hid (by kernel_rfl)
 have hN0:(0:Int)<(N:Int):=by rw[hlf] at hN;simp at hN;omega
 have hNz:((N:Int)==0)=false:=by simp;omega
 have HL:=hid hlv
 obtain ⟨N1,hN1⟩:∃ N1,N1=N+1:=⟨_,rfl⟩
 rw[←hN1] at c00 hw1 hlc
 have hNi:(N:Int)<(N1:Int):=by omega
 have hNn:(0:Int)≤(N:Int):=by omega
 have hNlc:(N:Int)≤(lc:Int):=by omega
 have htl:(0:Int)<(s.top.length:Int):=by have:=List.length_pos_iff.2 htp;omega
 generalize s.top.length=tl at *
 clear h h2 hga b0 b1 b2 hc hW2 hs2 hN hlv hlf he hs hN1 htp
 go_enter Tryz.func21,Tryz.ntmps21
 go_wp2_with (first
  |(have e3:=HW2.out;unfold do_W at e3;rw[←e3];clear e3;refine wpList_load_row (by rfl) 41 (.tmp 5) (by rfl) (w.heap.size+1+1) (by rfl) _ #[.int .i64 0,.int .i64 0,.bool false,.slice none 0 0,.string ⟨#[]⟩] (0,0) _ (HBk.out _ _).2 Tryz.underlying41 (by rfl) HI5.out ?_;obtain ⟨w9,hw9⟩:∃ w9,w9=W2.setCell ⟨b,1,none⟩ (.int .i64 4):=⟨_,rfl⟩;rw[←hw9];have hb9:w9.heap[w.heap.size+1]?=some (.cells #[.int .i64 0,.int .i64 0,.bool false,.slice none 0 0,.string ⟨#[]⟩] 41 (0,0)):=(by rw[hw9];exact (HBk.out _ _).1);have HB9:=hid hb9;have HW9:Hid (w9=W2.setCell ⟨b,1,none⟩ (.int .i64 ((4:Nat):Int))):=hid hw9;clear hw9 hb9)
  |(refine wpList_store_row (by rfl) 41 (.tmp 4) (.tmp 111) (by rfl) (w.heap.size+1) #[.int .i64 0,.int .i64 0,.bool false,.slice none 0 0,.string ⟨#[]⟩] (by rfl) (by rfl) _ _ HB9.out HI5.out rfl (dr_one5 _ _ _ _ _ _ _) ?_;obtain ⟨w6,hw6⟩:∃ w6,w6=w9.setRow (w.heap.size+1) #[.int .i64 0,.int .i64 0,.bool false,.slice none 0 0,.string ⟨#[]⟩]:=⟨_,rfl⟩;rw[←hw6];have HW6:=hid hw6;clear hw6))
 try simp only[Act.put,List.setIfInBounds_toArray,List.set_cons_succ,List.set_cons_zero]
 refine bodyPost_ret (v:=.agg #[.int .i64 0,.int .i64 0,.bool false,.slice none 0 0,.string ⟨#[]⟩]) ?_ rfl (by rw[HL.out];exact DoO.err3 HX.out HW2.out (grown_refl _ _) (Upto.refl F W2) (HX2.out.wide (fun j hj=>.inl hj) (ext_own HX2.out.base HX2.out.own (Nat.le_refl _))) (grown_refl _ _) 4 HW9.out HW6.out)
 exact results_cell_row Tryz.results21 _ _ (w.heap.size+1) _ _ (0,0) _ rfl (by rw[HW6.out];exact setRow_heap _ _ _ _ _ _ HB9.out) Tryz.underlying41 rfl HI5.out
theorem rdDo_2c {W0 w:World} {F:Nat→Prop} {b:Nat} {s:De.Rd} (h:RefR W0 F b s w) (tag least most:Int) (he:s.e=0) (hs:s.left.length≤1000) {l0:List Nat} {r:List (List Nat)} (hlf:s.left=l0 :: r) (htp:s.top=[]) :
  Calls Tryz.prog 21 #[.pointer (some ⟨b,0,none⟩),.agg #[.int .i64 2,.int .i64 tag,.int .i64 least,.int .i64 most]] w fun e w'=>DoO W0 F b (De.leave s,De.none0) w w' e:=by
 have hlv:De.leave s={ s with top:=l0,left:=r }:=by unfold De.leave;rw[if_neg (by omega),hlf];simp only;rw[if_neg (by rw[htp];simp)]
 obtain ⟨W2,hW2⟩:∃ W2,W2=do_W w 2 tag least most:=⟨_,rfl⟩
 have hga:w.grownBy W2 none:=by rw[hW2];exact do_W_grown _ _ _ _ _
 have hs2:W2.heap.size=w.heap.size+3:=by rw[hW2];exact do_W_size _ _ _ _ _
 have hbl:=(h.own b h.mem).2
 have b0:=do_W_0 w 2 tag least most
 rw[←hW2] at b0
 have b1:=do_W_1 w 2 tag least most
 rw[←hW2] at b1
 have b2:=do_W_2 w 2 tag least most
 rw[←hW2] at b2
 have h2:=h.still hga
 have HBk:Hid (∀ (i:Nat) (u:Value),(W2.setCell ⟨b,i,none⟩ u).heap[w.heap.size+1]?=some (.cells #[.int .i64 0,.int .i64 0,.bool false,.slice none 0 0,.string ⟨#[]⟩] 41 (0,0))∧(W2.setCell ⟨b,i,none⟩ u).heap[w.heap.size+2]?=some (.cells #[.int .i64 0,.int .i64 0,.bool false,.slice none 0 0,.string ⟨#[]⟩] 41 (0,0))):=hid (fun i u=>by
  constructor
  ·rw[Below.heap_setCell _ _ _ _ (fun e=>by have:w.heap.size+1=b:=e;omega)];exact b1
  ·rw[Below.heap_setCell _ _ _ _ (fun e=>by have:w.heap.size+2=b:=e;omega)];exact b2)
 obtain ⟨sb,so,lc,hc,hlc,hsb,⟨ya,yc,hcy⟩,hpop⟩:=h2.pop hlf
 have HP:=hid hpop
 have c1:=cell_blk hc 1 rfl
 have c00:=cell_blk hc 0 rfl
 have f1:=free_blk hc 1
 have f0:=free_blk hc 0
 rw[he] at c1
 have c0:=cell_blk b0 0 rfl
 rw[hW2] at c1 c0 c00 f1 f0 hcy
 unfold do_W at c1 c0 c00 f1 f0 hcy
 obtain ⟨N,hN⟩:∃ N,N=s.left.length:=⟨_,rfl⟩
 rw[←hN] at c00 hcy hlc hs HP
 have hw1:IntKind.i64.wrap (((N+1:Nat):Int)-1)=(N:Int):=by
  simp only[IntKind.wrap,IntKind.bits,IntKind.signed]
  simp
  omega
 have HX:=hid h
 have HX2:=hid h2
 have HW2:=hid hW2
 have HI5:Hid ((Tryz.prog.info? 41).map (·.size)=some 5):=hid (by kernel_rfl)
 have hN0:(0:Int)<(N:Int):=by rw[hlf] at hN;simp at hN;omega
 have hNz:((N:Int)==0)=false:=by simp;omega
 have HL:=hid hlv
 obtain ⟨N1,hN1⟩:∃ N1,N1=N+1:=⟨_,rfl⟩
 rw[←hN1] at c00 hw1 hlc
 have hNi:(N:Int)<(N1:Int):=by omega
 have hNn:(0:Int)≤(N:Int):=by omega
 have hNlc:(N:Int)≤(lc:Int):=by omega
 have htl:¬ (0:Int)<(s.top.length:Int):=by rw[htp];simp
 generalize s.top.length=tl at *
 clear h h2 hga b0 b1 b2 hc hW2 hs2 hN hlv hlf he hs hN1 htp hpop
 go_enter Tryz.func21,Tryz.ntmps21
 go_wp2_with (first
  |(have e3:=HW2.out;unfold do_W at e3;rw[←e3];clear e3;refine wpList_load_row (by rfl) 41 (.tmp 5) (by rfl) (w.heap.size+1+1) (by rfl) _ #[.int .i64 0,.int .i64 0,.bool false,.slice none 0 0,.string ⟨#[]⟩] (0,0) _ (HBk.out _ _).2 Tryz.underlying41 (by rfl) HI5.out ?_;obtain ⟨w9,hw9⟩:∃ w9,w9=W2.setCell ⟨b,0,none⟩ (.slice (some ⟨sb,so,none⟩) N lc):=⟨_,rfl⟩;rw[←hw9];have hb9:w9.heap[w.heap.size+1]?=some (.cells #[.int .i64 0,.int .i64 0,.bool false,.slice none 0 0,.string ⟨#[]⟩] 41 (0,0)):=(by rw[hw9];exact (HBk.out _ _).1);have HB9:=hid hb9;have HW9:Hid (w9=W2.setCell ⟨b,0,none⟩ (.slice (some ⟨sb,so,none⟩) N lc)):=hid hw9;clear hw9 hb9)
  |(refine wpList_store_row (by rfl) 41 (.tmp 4) (.tmp 111) (by rfl) (w.heap.size+1) #[.int .i64 0,.int .i64 0,.bool false,.slice none 0 0,.string ⟨#[]⟩] (by rfl) (by rfl) _ _ HB9.out HI5.out rfl (dr_one5 _ _ _ _ _ _ _) ?_;obtain ⟨w6,hw6⟩:∃ w6,w6=w9.setRow (w.heap.size+1) #[.int .i64 0,.int .i64 0,.bool false,.slice none 0 0,.string ⟨#[]⟩]:=⟨_,rfl⟩;rw[←hw6];have HW6:=hid hw6;clear hw6))
 try simp only[Act.put,List.setIfInBounds_toArray,List.set_cons_succ,List.set_cons_zero]
 refine bodyPost_ret (v:=.agg #[.int .i64 0,.int .i64 0,.bool false,.slice none 0 0,.string ⟨#[]⟩]) ?_ rfl (by
  obtain ⟨p1,p2⟩:=HP.out w9 HW9.out
  rw[HL.out]
  exact DoO.fin (r:=(_,De.none0)) (S:=⟨#[]⟩) (a:=none) (c:=0) HX.out HW2.out p1 p2 HW6.out rfl (dr_supnil p2.imLt))
 exact results_cell_row Tryz.results21 _ _ (w.heap.size+1) _ _ (0,0) _ rfl (by rw[HW6.out];exact setRow_heap _ _ _ _ _ _ HB9.out) Tryz.underlying41 rfl HI5.out
theorem rdDo_but1 {W0 w:World} {F:Nat→Prop} {b:Nat} {s:De.Rd} (h:RefR W0 F b s w) (k tag least most:Int) (hk:k≠1) (hs:s.left.length≤1000) (hl:s.top.length≤1000) :
  Calls Tryz.prog 21 #[.pointer (some ⟨b,0,none⟩),.agg #[.int .i64 k,.int .i64 tag,.int .i64 least,.int .i64 most]] w fun e w'=>DoO W0 F b (De.ask s k tag least most) w w' e:=by
 by_cases he:s.e=0
 ·by_cases h2:k=2
  ·subst h2
   have hr:De.ask s 2 tag least most=(De.leave s,De.none0):=by unfold De.ask;rw[if_neg (by omega),if_neg (by decide),if_pos rfl]
   rw[hr]
   cases hlf:s.left with
   |nil=>exact rdDo_2a h tag least most he hs hlf
   |cons l0 r =>
    by_cases htp:s.top=[]
    ·exact rdDo_2c h tag least most he hs hlf htp
    ·exact rdDo_2b h tag least most he hs hlf htp
  by_cases h11:k=11
  ·subst h11;exact rdDo_11 rdNext_any h tag least most he hs hl
  by_cases hmid:3≤k∧k≤9
  ·refine rdDo_mid rdNext_any h k (k-3).toNat (De.tagOf k) (by omega) (by omega) rfl ?_ tag least most he hs hl
   rcases (by omega:k=3∨k=4∨k=5∨k=6∨k=7∨k=8∨k=9) with rfl|rfl|rfl|rfl|rfl|rfl|rfl <;> rfl
  by_cases hlo:k<3
  ·exact rdDo_10a rdNext_any h k hk h2 h11 hlo tag least most he hs hl
  ·exact rdDo_10b rdNext_any h k hk h2 h11 (by omega) tag least most he hs hl
 ·exact rdDo_err h k tag least most he
theorem RefR.entered {W0 w:World} {F:Nat→Prop} {b:Nat} {s:De.Rd} (h:RefR W0 F b s w):∃ sb so lc ys,w.heap[b]?=some (.cells #[.slice (some ⟨sb,so,none⟩) (s.left.length+1) lc,.int .i64 (s.e:Nat)] 39 (0,0))∧ys.length=s.left.length+1∧(∀ u∈ys,u.oneCell'=true) ∧
  Sup (ImR W0 F b) w (Lev (.slice (some ⟨sb,so,none⟩) (s.left.length+1) lc) ys (s.left.reverse++[s.top])):=by
 obtain ⟨lv,hc,ys,hy⟩:=h.body
 obtain ⟨hV,hE,hW⟩:=hy.now
 have hyl:ys.length=s.left.length+1:=by rw[hE.len];simp
 obtain ⟨a,sb,so,c,e,h1,h2,h3⟩:=hV
 rw[hyl] at e h1 h2
 obtain ⟨rfl,hsb⟩:=h2 (by omega)
 subst e
 exact ⟨sb,so,c,ys,hc,hyl,hE.one,hy⟩
theorem rdDo_1b {W0 w:World} {F:Nat→Prop} {b:Nat} {s:De.Rd} (HNx:NxAny W0 b) (h:RefR W0 F b s w) (tag least most:Int) (he:s.e=0) (hs:s.left.length≤1000) (hl:s.top.length≤1000) (hq:¬ (s.top≠[]∧Tl.made tag=false)) {s2:De.Rd} (hnx:De.next s tag=(s2,none)) :
  Calls Tryz.prog 21 #[.pointer (some ⟨b,0,none⟩),.agg #[.int .i64 1,.int .i64 tag,.int .i64 least,.int .i64 most]] w fun e w'=>DoO W0 F b (s2,De.none0) w w' e:=by
 obtain ⟨W2,hW2⟩:∃ W2,W2=do_W w 1 tag least most:=⟨_,rfl⟩
 have hga:w.grownBy W2 none:=by rw[hW2];exact do_W_grown _ _ _ _ _
 have hs2:W2.heap.size=w.heap.size+3:=by rw[hW2];exact do_W_size _ _ _ _ _
 have hbl:=(h.own b h.mem).2
 have b0:=do_W_0 w 1 tag least most
 rw[←hW2] at b0
 have b1:=do_W_1 w 1 tag least most
 rw[←hW2] at b1
 have b2:=do_W_2 w 1 tag least most
 rw[←hW2] at b2
 have h2:=h.still hga
 obtain ⟨sb,so,lc,ya,yc,hc,hlc,hsb,hcy,_⟩:=h2.at_top
 have c1:=cell_blk hc 1 rfl
 rw[he] at c1
 have c0:=cell_blk b0 0 rfl
 rw[hW2] at c1 c0
 unfold do_W at c1 c0
 have hG:∀ W,W2.grownBy W none→W.heap[b]?=W2.heap[b]?:=fun W hW=>hW.block b (by omega) (by simp)
 obtain ⟨N,hN⟩:∃ N,N=s.left.length:=⟨_,rfl⟩
 rw[←hN] at hc hcy hlc
 have hw1:IntKind.i64.wrap (((N+1:Nat):Int)-1)=(N:Int):=by
  simp only[IntKind.wrap,IntKind.bits,IntKind.signed]
  simp
  omega
 obtain ⟨N1,hN1⟩:∃ N1,N1=N+1:=⟨_,rfl⟩
 rw[←hN1] at hc hw1 hlc
 have HL0:Hid (∀ W,W2.grownBy W none→(Instr.loadAt 37 (.pointer (some ⟨b,0,none⟩))).run Tryz.prog W=.ok (.slice (some ⟨sb,so,none⟩) N1 lc) W):=hid (fun W hW=>by
  have hcell:=cell_blk ((hG W hW).trans hc) 0 rfl
  simp[go_sem,hcell])
 have HIx:Hid (∀ W,(Instr.indexAt 37 (.slice (some ⟨sb,so,none⟩) N1 lc) (.int .i64 (N:Nat))).run Tryz.prog W=.ok (.pointer (some ⟨sb,so+N,none⟩)) W):=hid (fun W=>by
  have h1:(0:Int)≤(N:Int)∧(N:Int)<(N1:Int):=⟨by omega,by omega⟩
  simp[go_sem,h1])
 have HLT:Hid (∀ W,W2.grownBy W none→(Instr.loadAt 22 (.pointer (some ⟨sb,so+N,none⟩))).run Tryz.prog W=.ok (.slice ya s.top.length yc) W):=hid (fun W hW=>by
  have hcell:=(World.cell?_of_block (hW.block _ hsb (by simp))).trans hcy
  simp[go_sem,hcell])
 have HLg:Hid (∀ W,W2.grownBy W none→(Instr.loadAt 3 (.pointer (some ⟨w.heap.size,1,none⟩))).run Tryz.prog W=.ok (.int .i64 tag) W):=hid (fun W hW=>loadI (cell_blk ((hW.block _ (by omega) (by simp)).trans b0) 1 rfl))
 have HW1:=hid hw1
 have HX:=hid h
 have HX2:=hid h2
 have HW2:=hid hW2
 have HI5:Hid ((Tryz.prog.info? 41).map (·.size)=some 5):=hid (by kernel_rfl)
 have HT1:Hid (∀ W,W2.grownBy W none→W.cell? ⟨w.heap.size,1,none⟩=some (.int .i64 tag)):=hid (fun W hW=>cell_blk ((hW.block _ (by omega) (by simp)).trans b0) 1 rfl)
 have hcnd:(decide ((0:Int)<((s.top.length:Nat):Int))&&!(Tl.made tag))=false:=by
  by_cases ht:s.top=[]
  ·rw[ht];rfl
  ·have:Tl.made tag=true:=by
    rcases Bool.eq_false_or_eq_true (Tl.made tag) with h|h
    ·exact h
    ·exact absurd ⟨ht,h⟩ hq
   rw[this];simp
 have HCnd:=hid hcnd
 have HBs:Hid (∀ W,W2.grownBy W none→∀ w5,Upto F W w5→w5.heap[w.heap.size+1]?=some (.cells #[.int .i64 0,.int .i64 0,.bool false,.slice none 0 0,.string ⟨#[]⟩] 41 (0,0))):=hid (fun W hW w5 hu=>by
  have:=hW.size
  rw[hu.block _ (by omega) (fun hf=>by have:=(h.own _ hf).2;omega),hW.block _ (by omega) (by simp)];exact b1)
 have HNa:Hid (∀ W,W2.grownBy W none→Calls Tryz.prog 69 #[.pointer (some ⟨b,0,none⟩),.int .i64 tag] W fun e w'=>NxO W0 F b s tag W w' e):=hid (fun W hW=>HNx F s W tag (h2.still hW) hs (by omega))
 have HN:Hid (∀ W,W2.grownBy W none→Calls Tryz.prog 69 #[.pointer (some ⟨b,0,none⟩),.int .i64 tag] W fun e w'=>e=.returned (.tuple #[.slice none 0 0,.slice none 0 0,.bool false])∧Upto F W w'∧RefR W0 (Ext F W w') b s2 w'):=hid (fun W hW=>(HNa.out W hW).mono (fun e w' hh=>by
  obtain ⟨q1,q2,q3⟩:=hh
  rw[hnx] at q2 q3
  exact ⟨q3,q1,q2⟩))
 clear h h2 hga b0 b1 b2 hc hW2 hs2 hN hN1 hs hl hw1 hG hsb hcy hlc hcnd hq hnx
 go_enter Tryz.func21,Tryz.ntmps21
 go_wp2
 have e3:=HW2.out
 unfold do_W at e3
 rw[←e3]
 clear e3
 refine en_region _ b w.heap.size sb so N N1 lc s.top.length yc ya tag (decide ((0:Int)<((s.top.length:Nat):Int))) (Tl.made tag) W2 _ _ rfl rfl rfl (fun W=>by simp[go_sem]) (fun W=>by simp[go_sem]) (fun W hW=>HL0.out W hW) HW1.out (fun W=>HIx.out W) (fun W hW=>HLT.out W hW) rfl (fun W hW=>HLg.out W hW) (fun W=>refMade_any tag W) ⟨rfl,rfl,rfl,Nat.le_refl _,fun _ _ _=>rfl⟩ (fun us w4 hg4=>?_)
 simp only[fill_cons,fill_nil,Act.put,List.setIfInBounds_toArray,List.set_cons_succ,List.set_cons_zero]
 rw[HCnd.out]
 have hlg:=HLg.out w4 hg4
 have HG4:=hid hg4
 clear hg4
 have htg:w4.cell? ⟨w.heap.size,1,none⟩=some (.int .i64 tag):=HT1.out w4 HG4.out
 go_wp2_with (first
  |(go_at_call 69;refine (HN.out _ HG4.out).mono ?_;rintro e w5 ⟨rfl,q1,q2⟩;have Q1:=hid q1;have Q2:=hid q2;clear q1 q2)
  |(refine wpList_store_row (by rfl) 41 (.tmp 4) (.tmp 76) (by rfl) (w.heap.size+1) #[.int .i64 0,.int .i64 0,.bool false,.slice none 0 0,.string ⟨#[]⟩] (by rfl) (by rfl) _ _ (HBs.out _ HG4.out _ Q1.out) HI5.out rfl (dr_one5 _ _ _ _ _ _ _) ?_;obtain ⟨w6,hw6⟩:∃ w6,w6=w5.setRow (w.heap.size+1) #[.int .i64 0,.int .i64 0,.bool false,.slice none 0 0,.string ⟨#[]⟩]:=⟨_,rfl⟩;rw[←hw6];have HW6:=hid hw6;clear hw6))
 try simp only[Act.put,List.setIfInBounds_toArray,List.set_cons_succ,List.set_cons_zero]
 refine bodyPost_ret (v:=.agg #[.int .i64 0,.int .i64 0,.bool false,.slice none 0 0,.string ⟨#[]⟩]) ?_ rfl (DoO.none3 HX.out HW2.out HG4.out Q1.out Q2.out HW6.out)
 exact results_cell_row Tryz.results21 _ _ (w.heap.size+1) _ _ (0,0) _ rfl (by rw[HW6.out];exact setRow_heap _ _ _ _ _ _ (HBs.out _ HG4.out _ Q1.out)) Tryz.underlying41 rfl HI5.out
theorem rdDo_1c {W0 w:World} {F:Nat→Prop} {b:Nat} {s:De.Rd} (HNx:NxAny W0 b) (h:RefR W0 F b s w) (tag least most:Int) (he:s.e=0) (hs:s.left.length≤1000) (hl:s.top.length≤1000) (hq:¬ (s.top≠[]∧Tl.made tag=false)) {s2:De.Rd} {x y:List Nat} (hnx:De.next s tag=(s2,some (x,y))) :
  Calls Tryz.prog 21 #[.pointer (some ⟨b,0,none⟩),.agg #[.int .i64 1,.int .i64 tag,.int .i64 least,.int .i64 most]] w fun e w'=>DoO W0 F b ({ s2 with top:=x,left:=s2.top :: s2.left },{ De.none0 with is:=true }) w w' e:=by
 obtain ⟨W2,hW2⟩:∃ W2,W2=do_W w 1 tag least most:=⟨_,rfl⟩
 have hga:w.grownBy W2 none:=by rw[hW2];exact do_W_grown _ _ _ _ _
 have hs2:W2.heap.size=w.heap.size+3:=by rw[hW2];exact do_W_size _ _ _ _ _
 have hbl:=(h.own b h.mem).2
 have b0:=do_W_0 w 1 tag least most
 rw[←hW2] at b0
 have b1:=do_W_1 w 1 tag least most
 rw[←hW2] at b1
 have b2:=do_W_2 w 1 tag least most
 rw[←hW2] at b2
 have h2:=h.still hga
 obtain ⟨sb,so,lc,ya,yc,hc,hlc,hsb,hcy,_⟩:=h2.at_top
 have c1:=cell_blk hc 1 rfl
 rw[he] at c1
 have c0:=cell_blk b0 0 rfl
 rw[hW2] at c1 c0
 unfold do_W at c1 c0
 have hG:∀ W,W2.grownBy W none→W.heap[b]?=W2.heap[b]?:=fun W hW=>hW.block b (by omega) (by simp)
 obtain ⟨N,hN⟩:∃ N,N=s.left.length:=⟨_,rfl⟩
 rw[←hN] at hc hcy hlc
 have hw1:IntKind.i64.wrap (((N+1:Nat):Int)-1)=(N:Int):=by
  simp only[IntKind.wrap,IntKind.bits,IntKind.signed]
  simp
  omega
 obtain ⟨N1,hN1⟩:∃ N1,N1=N+1:=⟨_,rfl⟩
 rw[←hN1] at hc hw1 hlc
 have HL0:Hid (∀ W,W2.grownBy W none→(Instr.loadAt 37 (.pointer (some ⟨b,0,none⟩))).run Tryz.prog W=.ok (.slice (some ⟨sb,so,none⟩) N1 lc) W):=hid (fun W hW=>by
  have hcell:=cell_blk ((hG W hW).trans hc) 0 rfl
  simp[go_sem,hcell])
 have HIx:Hid (∀ W,(Instr.indexAt 37 (.slice (some ⟨sb,so,none⟩) N1 lc) (.int .i64 (N:Nat))).run Tryz.prog W=.ok (.pointer (some ⟨sb,so+N,none⟩)) W):=hid (fun W=>by
  have h1:(0:Int)≤(N:Int)∧(N:Int)<(N1:Int):=⟨by omega,by omega⟩
  simp[go_sem,h1])
 have HLT:Hid (∀ W,W2.grownBy W none→(Instr.loadAt 22 (.pointer (some ⟨sb,so+N,none⟩))).run Tryz.prog W=.ok (.slice ya s.top.length yc) W):=hid (fun W hW=>by
  have hcell:=(World.cell?_of_block (hW.block _ hsb (by simp))).trans hcy
  simp[go_sem,hcell])
 have HLg:Hid (∀ W,W2.grownBy W none→(Instr.loadAt 3 (.pointer (some ⟨w.heap.size,1,none⟩))).run Tryz.prog W=.ok (.int .i64 tag) W):=hid (fun W hW=>loadI (cell_blk ((hW.block _ (by omega) (by simp)).trans b0) 1 rfl))
 have HW1:=hid hw1
 have HX:=hid h
 have HX2:=hid h2
 have HW2:=hid hW2
 have HI5:Hid ((Tryz.prog.info? 41).map (·.size)=some 5):=hid (by kernel_rfl)
 have HT1:Hid (∀ W,W2.grownBy W none→W.cell? ⟨w.heap.size,1,none⟩=some (.int .i64 tag)):=hid (fun W hW=>cell_blk ((hW.block _ (by omega) (by simp)).trans b0) 1 rfl)
 have hcnd:(decide ((0:Int)<((s.top.length:Nat):Int))&&!(Tl.made tag))=false:=by
  by_cases ht:s.top=[]
  ·rw[ht];rfl
  ·have:Tl.made tag=true:=by
    rcases Bool.eq_false_or_eq_true (Tl.made tag) with h|h
    ·exact h
    ·exact absurd ⟨ht,h⟩ hq
   rw[this];simp
 have HCnd:=hid hcnd
 have HBs:Hid (∀ W,W2.grownBy W none→∀ w5,Upto F W w5→w5.heap[w.heap.size+1]?=some (.cells #[.int .i64 0,.int .i64 0,.bool false,.slice none 0 0,.string ⟨#[]⟩] 41 (0,0))):=hid (fun W hW w5 hu=>by
  have:=hW.size
  rw[hu.block _ (by omega) (fun hf=>by have:=(h.own _ hf).2;omega),hW.block _ (by omega) (by simp)];exact b1)
 have HNa:Hid (∀ W,W2.grownBy W none→Calls Tryz.prog 69 #[.pointer (some ⟨b,0,none⟩),.int .i64 tag] W fun e w'=>NxO W0 F b s tag W w' e):=hid (fun W hW=>HNx F s W tag (h2.still hW) hs (by omega))
 have hF:∀ j,F j→W0.heap.size≤j∧j<W2.heap.size:=fun j hj=>⟨(h.own j hj).1,Nat.lt_of_lt_of_le (h.own j hj).2 hga.size⟩
 have hl2:s2.left.length≤1000:=by
  have:s2.left=s.left:=by
   unfold De.next at hnx
   split at hnx
   ·cases hnx
   ·split at hnx
    ·cases hnx
    ·split at hnx
     ·cases hnx
     ·simp only[Prod.mk.injEq] at hnx
      obtain ⟨rfl,_⟩:=hnx
      rfl
  rw[this];exact hs
 have HL2:=hid hl2
 have HS2:=hid hs2
 have HFl:Hid (∀ j,F j→j<w.heap.size):=hid (fun j hj=>(h.own j hj).2)
 have HN:Hid (∀ W,W2.grownBy W none→Calls Tryz.prog 69 #[.pointer (some ⟨b,0,none⟩),.int .i64 tag] W fun e w'=>∃ a2 a3 c2 c3,e=.returned (.tuple #[.slice a2 x.length c2,.slice a3 y.length c3,.bool true])∧Upto F W w'∧Upto F W2 w'∧RefR W0 (Ext F W2 w') b s2 w'∧Sup (ImR W0 (Ext F W2 w') b) w' (fun X=>Bytes X (.slice a2 x.length c2) x∧Whole0 (.slice a2 x.length c2))):=hid (fun W hW=>(HNa.out W hW).mono (fun e w' hh=>by
  obtain ⟨q1,q2,q3⟩:=hh
  rw[hnx] at q2 q3
  obtain ⟨a2,a3,c2,c3,q4,q5⟩:=q3
  obtain ⟨m1,m2⟩:=ext_mid hW q1 hF q2 (grown_trans h.base hga)
  have hsW:=hW.size
  refine ⟨a2,a3,c2,c3,q4,q1,m1,m2,(q5.map (fun _ h=>h.1)).mono (fun j hj=>⟨hj.1.imp (fun hf=>?_) id,hj.2⟩) m2.imLt⟩
  rcases hf with hf|hf
  ·exact .inl hf
  ·exact .inr ⟨by omega,hf.2⟩))
 have HI1:Hid ((Tryz.prog.info? 22).map (fun i=>(i.zero,i.size,i.bytes))=some (some (.slice none 0 0),1,24)):=hid (by kernel_rfl)
 clear h h2 hga b0 b1 b2 hc hW2 hs2 hN hN1 hs hl hw1 hG hsb hcy hlc hcnd hq hnx hF hl2
 go_enter Tryz.func21,Tryz.ntmps21
 go_wp2
 have e3:=HW2.out
 unfold do_W at e3
 rw[←e3]
 clear e3
 refine en_region _ b w.heap.size sb so N N1 lc s.top.length yc ya tag (decide ((0:Int)<((s.top.length:Nat):Int))) (Tl.made tag) W2 _ _ rfl rfl rfl (fun W=>by simp[go_sem]) (fun W=>by simp[go_sem]) (fun W hW=>HL0.out W hW) HW1.out (fun W=>HIx.out W) (fun W hW=>HLT.out W hW) rfl (fun W hW=>HLg.out W hW) (fun W=>refMade_any tag W) ⟨rfl,rfl,rfl,Nat.le_refl _,fun _ _ _=>rfl⟩ (fun us w4 hg4=>?_)
 simp only[fill_cons,fill_nil,Act.put,List.setIfInBounds_toArray,List.set_cons_succ,List.set_cons_zero]
 rw[HCnd.out]
 have HG4:=hid hg4
 clear hg4
 have htg:w4.cell? ⟨w.heap.size,1,none⟩=some (.int .i64 tag):=HT1.out w4 HG4.out
 go_wp2_with (first
  |(go_at_call 69;refine (HN.out _ HG4.out).mono ?_;rintro e w5 ⟨a2,a3,c2,c3,rfl,q0,q1,q2,q3⟩;have Q0:=hid q0;have Q1:=hid q1;have Q2:=hid q2;have Q3:=hid q3;obtain ⟨sb2,so2,lc2,ys,hc5,hyl5,hone5,hy5⟩:=q2.entered;have HC5:=hid hc5;have HYl:=hid hyl5;have HOne:=hid hone5;have HY5:=hid hy5;obtain ⟨n2,hn2⟩:∃ n2,n2=s2.left.length+1:=⟨_,rfl⟩;have HN2:Hid (n2≤1001):=hid (by have:=HL2.out;omega);rw[←hn2] at HC5 HYl HY5;have HV5:Hid (∀ W,w5.grownBy W none→Vals W (.slice (some ⟨sb2,so2,none⟩) n2 lc2) ys):=hid (fun W hW=>HY5.out.now.1.grown hW);have e5:=cell_blk ((grown_alloc (grown_refl w5 none) (.cells #[] 22)).block b (blk_lt HC5.out) (by simp) |>.trans HC5.out) 0 rfl;have HGb:Hid (∀ W,w5.grownBy W none→W.heap[b]?=w5.heap[b]?):=hid (fun W hW=>hW.block b (blk_lt HC5.out) (by simp));clear q0 q1 q2 q3 hc5 hyl5 hone5 hy5 hn2)
  |(at_builtin;refine wpList_appV (by rfl) (.tmp 64) (.tmp 68) 37 (by rfl) w5.heap.size 22 (.slice none 0 0) 24 Tryz.underlying37 HI1.out rfl (by decide) _ 0 [] (by rfl) (FrV.first w5).own _ ys (by rfl) (HV5.out _ (FrV.first w5).grown) (Whole0.some _ _ _) HOne.out (by have:=HYl.out;have:=HN2.out;omega) (by rw[alloc_size];omega) ?_;intro v1 w1 ho1 hg1 _;have F1:Hid (FrV w5 w1 v1 ys):=hid ((FrV.first w5).step (ys:=ys) (by simpa using ho1) hg1);clear ho1 hg1)
  |(at_builtin;refine wpList_appV (by rfl) (.tmp 69) (.tmp 71) 37 (by rfl) w5.heap.size 22 (.slice none 0 0) 24 Tryz.underlying37 HI1.out rfl (by decide) v1 ys.length ys (by rfl) (F1.out.alloc _).own _ [.slice a2 x.length c2] (by rfl) (Vals.lit (xs:=[.slice a2 x.length c2]) (alloc_at w1 _)) (Whole0.some _ _ _) (by simp[Value.oneCell']) (by have:=HYl.out;have:=HN2.out;simp;omega) (by have:=F1.out.grown.size;rw[alloc_size];omega) ?_;intro v2 w2 ho2 hg2 _;obtain ⟨n3,hn3⟩:∃ n3,n3=ys.length+[Value.slice a2 x.length c2].length:=⟨_,rfl⟩;rw[←hn3] at ho2;have hF2:FrV w5 w2 v2 (ys++[.slice a2 x.length c2]):=(F1.out.alloc _).step ho2 hg2;obtain ⟨ai,gi,ci,hvi,_,_,_,_⟩:=ownsRow_form ho2;subst hvi;have F2:=hid hF2;have hb2:=(HGb.out w2 hF2.grown).trans HC5.out;have d2:=cell_blk hb2 0 rfl;have f2:=free_blk hb2 0;clear ho2 hg2 hF2 hb2 hn3)
  |(obtain ⟨w9,hw9⟩:∃ w9,w9=w2.setCell ⟨b,0,none⟩ (.slice ai n3 ci):=⟨_,rfl⟩;rw[←hw9];have hpu:=Q2.out.push HC5.out HY5.out Q3.out F2.out hw9;have hb9:w9.heap[w.heap.size+1]?=some (.cells #[.int .i64 0,.int .i64 0,.bool false,.slice none 0 0,.string ⟨#[]⟩] 41 (0,0)):=(by rw[hpu.1.block _ (blk_lt (HBs.out _ HG4.out _ Q0.out)) (fun hf=>Or.elim hf (fun hf=>by have:=HFl.out _ hf;omega) (fun hf=>by have:=HS2.out;omega))];exact HBs.out _ HG4.out _ Q0.out);have HPu:=hid hpu;have HB9:=hid hb9;clear hpu hb9 hw9;refine wpList_store_row (by rfl) 41 (.tmp 4) (.tmp 76) (by rfl) (w.heap.size+1) #[.int .i64 0,.int .i64 0,.bool true,.slice none 0 0,.string ⟨#[]⟩] (by rfl) (by rfl) _ _ HB9.out HI5.out rfl (dr_one5 _ _ _ _ _ _ _) ?_;obtain ⟨w6,hw6⟩:∃ w6,w6=w9.setRow (w.heap.size+1) #[.int .i64 0,.int .i64 0,.bool true,.slice none 0 0,.string ⟨#[]⟩]:=⟨_,rfl⟩;rw[←hw6];have HW6:=hid hw6;clear hw6))
 try simp only[Act.put,List.setIfInBounds_toArray,List.set_cons_succ,List.set_cons_zero]
 refine bodyPost_ret (v:=.agg #[.int .i64 0,.int .i64 0,.bool true,.slice none 0 0,.string ⟨#[]⟩]) ?_ rfl (DoO.enter3 HX.out HW2.out Q1.out HPu.out.1 HPu.out.2 true HW6.out)
 exact results_cell_row Tryz.results21 _ _ (w.heap.size+1) _ _ (0,0) _ rfl (by rw[HW6.out];exact setRow_heap _ _ _ _ _ _ HB9.out) Tryz.underlying41 rfl HI5.out
theorem rdDo_any {W0 w:World} {F:Nat→Prop} {b:Nat} {s:De.Rd} (h:RefR W0 F b s w) (k tag least most:Int) (hs:s.left.length≤1000) (hl:s.top.length≤1000) :
  Calls Tryz.prog 21 #[.pointer (some ⟨b,0,none⟩),.agg #[.int .i64 k,.int .i64 tag,.int .i64 least,.int .i64 most]] w fun e w'=>DoO W0 F b (De.ask s k tag least most) w w' e:=by
 by_cases hk:k=1
 ·subst hk
  by_cases he:s.e=0
  ·have hr:De.ask s 1 tag least most=((De.enter s tag).1,{ De.none0 with is:=(De.enter s tag).2 }):=by unfold De.ask;rw[if_neg (by omega),if_pos rfl]
   rw[hr]
   by_cases hq:s.top≠[]∧Tl.made tag=false
   ·have hen:De.enter s tag=({ s with e:=5 },false):=by unfold De.enter;rw[if_neg (by omega),if_pos hq]
    rw[hen]
    exact rdDo_1a rdNext_any h tag least most he hs hl hq.1 hq.2
   ·cases hnx:De.next s tag with
    |mk s2 r =>
     cases r with
     |none =>
      have hen:De.enter s tag=(s2,false):=by unfold De.enter;rw[if_neg (by omega),if_neg hq,hnx]
      rw[hen]
      exact rdDo_1b rdNext_any h tag least most he hs hl hq hnx
     |some xy =>
      obtain ⟨x,y⟩:=xy
      have hen:De.enter s tag=({ s2 with top:=x,left:=s2.top :: s2.left },true):=by unfold De.enter;rw[if_neg (by omega),if_neg hq,hnx]
      rw[hen]
      exact rdDo_1c rdNext_any h tag least most he hs hl hq hnx
  ·exact rdDo_err h 1 tag least most he
 ·exact rdDo_but1 h k tag least most hk hs hl
end Go.Proofs.YtndkifkhdollgaaGreatDoor
