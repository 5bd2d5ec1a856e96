import Derived.Test.YtjjbkpjjmbfdhaaGreatDoorZb03
import Derived.Test.YtjjbkpjjmbfdhaaGreatDoorZb05
import Derived.Test.YtjjbkpjjmbfdhaaGreatDoorZb06
import Derived.Test.YtjjbkpjjmbfdhaaGreatDoorZb09
import Derived.Test.YtjjbkpjjmbfdhaaGreatDoorZb11
import Derived.Test.YtjjbkpjjmbfdhaaGreatDoorZb12
import Derived.Test.YtjjbkpjjmbfdhaaGreatDoorZb21
import Derived.Test.YtjjbkpjjmbfdhaaGreatDoorZb34
import Derived.DeepKeys5
import Derived.Handy
import Derived.BigQuiet
set_option linter.unusedVariables false
set_option linter.unusedSimpArgs false
set_option maxRecDepth 100000
set_option maxHeartbeats 8000000
namespace Go.Proofs.YtjjbkpjjmbfdhaaGreatDoor
open Lib (hid)
open Go.RowKit Go.Maps Bu
open Go.ChangeMaps (setBlock)
theorem an_info:(Tryz.prog.info? 48).map (·.size)=some 4:=by kernel_rfl
theorem isAnchor_any (A:Nat→Addr) (a:An) (w:World) (hk:a.k.size≤1000) (hE:AllErrs w A) :
  Calls Tryz.prog 72 #[a.val] w fun e w'=>e=.returned (.bool (okAn a))∧w.grownBy w' none:=by
 obtain ⟨g,k,f,t⟩:=a
 have hv:An.val ⟨g,k,f,t⟩=.agg #[.int .i64 g,.string k,.int .i64 f,.int .i64 t]:=rfl
 obtain ⟨w1,hw1⟩:∃ w1,w1=w.alloc (.cells #[.int .i64 g,.string k,.int .i64 f,.int .i64 t] 48):=⟨_,rfl⟩
 have hg1:w.grownBy w1 none:=by rw[hw1];exact World.grownBy_alloc _ _ _
 have hb1:w1.heap[w.heap.size]?=some (.cells #[.int .i64 g,.string k,.int .i64 f,.int .i64 t] 48 (0,0)):=by rw[hw1];exact alloc_at _ _
 have HB1:=hid hb1
 have HG1:=hid hg1
 have HW1:=hid hw1
 have HBy:=hid (bytes_any A k w1 (by have:k.size≤1000:=hk;omega) (hE.grown hg1))
 have hok:okAn ⟨g,k,f,t⟩=(okKey k&&(decide (1≤g∧g≤1048576)&&decide (0≤f∧f≤t∧t≤253402300799))):=rfl
 rw[hv,hok]
 by_cases hK:okKey k=true
 ·have hK2:(strL k).length=32∧hexOk (strL k)=true:=by unfold okKey at hK;simpa using hK
  rw[hK,Bool.true_and]
  unfold ByPost at HBy
  simp only[if_pos hK2] at HBy
  clear hk hE hv hw1 hg1 hok hK hK2
  go_enter Tryz.func72,Tryz.ntmps72
  go_wp2_with (go_at_call 23;rw[←HW1.out];refine HBy.out.mono ?_;rintro e w2 ⟨⟨a2,c2,rfl,-,-⟩,hg2⟩;have G2:=hid hg2;have hb2:=hold_b3 HB1.out hg2;have d0:=cell_blk hb2 0 rfl;have d2:=cell_blk hb2 2 rfl;have d3:=cell_blk hb2 3 rfl;clear hg2)
  all_goals (go_ret;refine ⟨congrArg Ending.returned (congrArg Value.bool ?_),grown_trans HG1.out G2.out⟩;rw[Bool.eq_iff_iff];simp;omega)
 ·have hKf:okKey k=false:=by simpa using hK
  have hK2:¬ ((strL k).length=32∧hexOk (strL k)=true):=by unfold okKey at hK;simpa using hK
  rw[hKf,Bool.false_and]
  unfold ByPost at HBy
  simp only[if_neg hK2] at HBy
  clear hk hE hv hw1 hg1 hok hK hK2 hKf
  go_enter Tryz.func72,Tryz.ntmps72
  go_wp2_with (go_at_call 23;rw[←HW1.out];refine HBy.out.mono ?_;rintro e w2 ⟨rfl,hg2⟩;have G2:=hid hg2;clear hg2)
  go_ret
  exact ⟨rfl,grown_trans HG1.out G2.out⟩
theorem bk_keyed:Keyed Tryz.prog 9:=string_keyed Tryz.underlying9
theorem bk_map:Tryz.prog.underlying 115=some (.map 9 4):=Tryz.underlying115
theorem bk_zero (w:World):(zeroValue 4).run Tryz.prog w=.ok (.bool false) w:=by kernel_rfl
theorem bk_key (s:ByteArray) (hs:s.size≤1099511620000):∃ l,keyOf Tryz.prog 9 (.string s)=some l:=⟨_,Go.WideMaps.keyOf_string_mk Tryz.underlying9 (by unfold maxLen;omega)⟩
def keysOf (l:List An):List (Value×Value):=l.map fun a=>(.string a.k,.bool true)
theorem bk_keys {l:List An} (h:∀ a∈l,a.k.size≤1000):∀ p∈keysOf l,∃ kl,keyOf Tryz.prog 9 p.1=some kl:=fun p hp=>by
 obtain ⟨a,ha,rfl⟩:=List.mem_map.1 hp
 exact bk_key a.k (by have:=h a ha;omega)
theorem bk_look {w:World} {b:Nat} {l:List An} (h:MapL w b (keysOf l)) (hs:∀ a∈l,a.k.size≤1000) (k:ByteArray) (hk:k.size≤1000) :
  (Instr.lookup 115 (.map (some b)) (.string k) false).run Tryz.prog w=.ok (.bool (l.any (fun a=>decide (a.k=k)))) w:=by
 obtain ⟨kl,hkl⟩:=bk_key k (by omega)
 cases ha:l.any (fun a=>decide (a.k=k)) with
 |true =>
  obtain ⟨a,ha1,ha2⟩:=List.any_eq_true.1 ha
  have ha2:a.k=k:=by simpa using ha2
  exact look_hit bk_keyed bk_map h (bk_keys hs) hkl (v:=.bool true) (List.mem_map.2 ⟨a,ha1,by rw[ha2]⟩) (fun p hp _=>by
   obtain ⟨a',_,rfl⟩:=List.mem_map.1 hp
   rfl) false
 |false =>
  refine look_miss bk_keyed bk_map (bk_zero w) h (bk_keys hs) hkl (fun p hp e=>?_) false
  obtain ⟨a,ha1,rfl⟩:=List.mem_map.1 hp
  have e:a.k=k:=by simpa using e
  have:=List.any_eq_false.1 ha a ha1
  simp[e] at this
theorem bk_put {w:World} {b:Nat} {l:List An} (h:MapL w b (keysOf l)) (hs:∀ a∈l,a.k.size≤1000) (a:An) (hk:a.k.size≤1000) (hno:l.any (fun x=>decide (x.k=a.k))=false) :
  ∃ es' clock',(∀ W:World,W.heap[b]?=w.heap[b]?→(Instr.mapUpdate 115 (.map (some b)) (.string a.k) (.bool true)).run Tryz.prog W=.ok () (setBlock W b (.map es' clock')))∧es'.toList.map (fun x=>(x.key,x.val))=keysOf (l++[a]):=by
 obtain ⟨kl,hkl⟩:=bk_key a.k (by omega)
 obtain ⟨es',cl',h1,h2⟩:=put_miss bk_keyed bk_map h (bk_keys hs) (v:=.bool true) hkl (fun p hp e=>by
  obtain ⟨x,hx,rfl⟩:=List.mem_map.1 hp
  have e:x.k=a.k:=by simpa using e
  have:=List.any_eq_false.1 hno x hx
  simp[e] at this)
 refine ⟨es',cl',h1,?_⟩
 rw[h2]
 simp[keysOf]
theorem all_ne {l:List An} {k:ByteArray}:(l.all (fun b=>decide (b.k≠k)))=!(l.any (fun b=>decide (b.k=k))):=by
 rw[List.not_any_eq_all_not]
 congr 1
 funext b
 simp
theorem areAnchors_any (A:Nat→Addr) (v:Value) (l:List An) (w:World) (hA:Ans w v l) (hl:l.length≤1000) (hk:∀ a∈l,a.k.size≤1000) (hE:AllErrs w A) :
  Calls Tryz.prog 29 #[v] w fun e w'=>e=.returned (.bool (okL l))∧w.grownBy w' none:=by
 have HP:=hid (fun W (hg:w.grownBy W none)=>(hA.grown hg).form)
 obtain ⟨a,g,o,c,rfl,ha,h0,hx⟩:=hA.form
 obtain ⟨n,hn⟩:∃ n,n=l.length:=⟨_,rfl⟩
 have HX:=hid (fun W (hg:w.grownBy W none) i (hi:i<n)=>(show W.cell? ⟨g,o+i*4,none⟩=some (.int .i64 (l.getD i an0).g)∧W.cell? ⟨g,o+i*4+1,none⟩=some (.string (l.getD i an0).k)∧W.cell? ⟨g,o+i*4+2,none⟩=some (.int .i64 (l.getD i an0).f)∧W.cell? ⟨g,o+i*4+3,none⟩=some (.int .i64 (l.getD i an0).t) from by
  have hb:=hg.block g (ha (by omega)).2 (by simp)
  obtain ⟨k1,k2,k3,k4⟩:=hx i (by omega)
  exact ⟨(World.cell?_of_block hb).trans k1,(World.cell?_of_block hb).trans k2,(World.cell?_of_block hb).trans k3,(World.cell?_of_block hb).trans k4⟩))
 have HAd:Hid (0<n→a=some ⟨g,o,none⟩):=hid (fun h=>(ha (by omega)).1)
 by_cases h8:1≤n∧n≤8
 ·have hok:okL l=docA [] l:=by unfold okL;rw[←hn,decide_eq_true h8,Bool.true_and]
  rw[hok]
  have HIs:=hid (fun W (hg:w.grownBy W none) i (hi:i<n)=>isAnchor_any A (l.getD i an0) W (hk _ (by rw[List.getD_eq_getElem?_getD,List.getElem?_eq_getElem (by omega)];exact List.getElem_mem _)) (hE.grown hg))
  have HKs:Hid (∀ i,i<n→(l.getD i an0).k.size≤1000):=hid (fun i hi=>hk _ (by rw[List.getD_eq_getElem?_getD,List.getElem?_eq_getElem (by omega)];exact List.getElem_mem _))
  have HKt:Hid (∀ i,∀ x∈l.take i,x.k.size≤1000):=hid (fun i x hx=>hk x (List.mem_of_mem_take hx))
  have HLn:=hid hn
  obtain rfl:=HAd.out (by omega)
  have hmm:=@run_makeMap Tryz.prog
  have hlo:¬ (n:Int)<1:=by omega
  have hhi:¬ (8:Int)<(n:Int):=by omega
  have h8n:n≤8:=h8.2
  obtain ⟨R,hR⟩:∃ R,R=docA [] l:=⟨_,rfl⟩
  have HRr:=hid hR
  rw[←hR,←hn]
  have HI:=hid an_info
  clear hA hl hk hE ha h0 hx h8 hok hn hR
  go_enter Tryz.func29,Tryz.ntmps29
  go_wp2
  obtain ⟨W1,hW1⟩:∃ W1,W1=w.alloc (.map #[] 0):=⟨_,rfl⟩
  have M0:Hid (MapL W1 w.heap.size (keysOf (l.take 0))):=hid (by rw[hW1,List.take_zero];exact mapL_new w)
  have G1:Hid (w.grownBy W1 none):=hid (by rw[hW1];exact World.grownBy_alloc _ _ _)
  rw[←hW1]
  clear hW1
  go_loopw [18,3] (fun i lg wr=>∃ j:Nat,j≤n∧i=.int .i64 (j:Int)∧lg=.int .i64 (lastG l j)∧MapL wr w.heap.size (keysOf (l.take j))∧w.grownBy wr none∧Upok l j∧docA (l.take j) (l.drop j)=R) (fun i _ _=>n-(intOf i).toNat)
  case atStart=>exact ⟨0,Nat.zero_le _,rfl,rfl,M0.out,G1.out,fun i hi=>absurd hi (Nat.not_lt_zero _),by rw[docA_start];exact HRr.out.symm⟩
  case round =>
   obtain ⟨j,hj,rfl,rfl,hM,hG,hU,hD⟩:=hrel
   have HM:=hid hM
   have HG:=hid hG
   have HU:=hid hU
   have HD:=hid hD
   have HMl:=hid hM.lt
   clear hM hG hU hD
   by_cases hjn:j<n
   ·obtain ⟨c0,c1,c2,c3⟩:=HX.out wr HG.out j hjn
    have hln:j<l.length:=by have:=HLn.out;omega
    have HSt:=hid (docA_step hln)
    have hop:=okAt_prog HU.out hln
    rw[all_ne] at hop
    obtain ⟨x,hx⟩:∃ x,x=l.getD j an0:=⟨_,rfl⟩
    have HSn:=hid (take_snoc hln)
    have HXx:=hid hx.symm
    have hlG:lastG l (j+1)=x.g:=by unfold lastG;rw[if_neg (by omega),Nat.add_sub_cancel,hx]
    have HLg:=hid hlG
    have hks:=HKs.out j hjn
    rw[←hx] at c0 c1 c2 c3 hop HSt HSn hks
    have HIx:=hid (fun W (hg:w.grownBy W none)=>(by have:=HIs.out W hg j hjn;rw[←hx] at this;exact this:Calls Tryz.prog 72 #[x.val] W fun e w'=>e=.returned (.bool (okAn x))∧W.grownBy w' none))
    have HOp:=hid hop
    have HKx:=hid hks
    have hv:x.val=.agg #[.int .i64 x.g,.string x.k,.int .i64 x.f,.int .i64 x.t]:=rfl
    rw[hv] at HIx
    obtain ⟨xg,hxg⟩:∃ xg,xg=x.g:=⟨_,rfl⟩
    obtain ⟨xk,hxk⟩:∃ xk,xk=x.k:=⟨_,rfl⟩
    obtain ⟨xf,hxf⟩:∃ xf,xf=x.f:=⟨_,rfl⟩
    obtain ⟨xt,hxt⟩:∃ xt,xt=x.t:=⟨_,rfl⟩
    rw[←hxg,←hxk,←hxf,←hxt] at HIx
    rw[←hxg] at c0 HLg HOp
    rw[←hxk] at c1 HOp HKx
    rw[←hxf] at c2
    rw[←hxt] at c3
    have HXk:=hid hxk
    obtain ⟨W5,hW5⟩:∃ W5,W5=wr.alloc (.cells #[.int .i64 xg,.string xk,.int .i64 xf,.int .i64 xt] 48):=⟨_,rfl⟩
    have g5:wr.grownBy W5 none:=by rw[hW5];exact World.grownBy_alloc _ _ _
    have b5:W5.heap[wr.heap.size]?=some (.cells #[.int .i64 xg,.string xk,.int .i64 xf,.int .i64 xt] 48 (0,0)):=by rw[hW5];exact alloc_at _ _
    have B5:=hid b5
    have HW5:=hid hW5
    have G5:=hid g5
    have HLk:Hid (∀ W,wr.grownBy W none→(Instr.lookup 115 (.map (some w.heap.size)) (.string xk) false).run Tryz.prog W=.ok (.bool ((l.take j).any (fun a=>decide (a.k=xk)))) W):=hid (fun W hW=>bk_look (mapL_of HM.out (hW.block _ HMl.out (by simp))) (HKt.out j) xk HKx.out)
    clear hx hop hlG hks hv hxg hxk hxf hxt hW5 g5 b5 hln
    obtain ⟨q1,hq1⟩:∃ q1,q1=okAn x:=⟨_,rfl⟩
    obtain ⟨q3,hq3⟩:∃ q3,q3=(l.take j).any (fun a=>decide (a.k=xk)):=⟨_,rfl⟩
    rw[←hq1] at HIx HOp
    rw[←hq3] at HLk HOp
    have HQ3:=hid hq3
    obtain ⟨LG,hLG⟩:∃ LG,LG=lastG l j:=⟨_,rfl⟩
    rw[←hLG] at HOp ⊢
    clear hq1 hq3 hLG
    cases q1 with
    |false =>
     have hR0:R=false:=by rw[←HD.out,HSt.out,HOp.out];rfl
     have HR0:=hid hR0
     clear hR0
     go_wp2_with (first
      |(rw[←HW5.out];refine wpList_load_row (by rfl) 48 (.tmp 6) (by rfl) wr.heap.size (by rfl) 48 #[.int .i64 xg,.string xk,.int .i64 xf,.int .i64 xt] (0,0) _ B5.out Tryz.underlying48 rfl HI.out ?_)
      |(go_at_call 72;(try rw[←HW5.out]);refine (HIx.out _ (grown_trans HG.out G5.out)).mono ?_;rintro e w6 ⟨rfl,hg6⟩;have G6:=hid (grown_trans HG.out (grown_trans G5.out hg6));clear hg6))
     go_ret
     exact ⟨by rw[HR0.out];rfl,G6.out⟩
    |true =>
     by_cases hlt:LG<xg
     ·cases q3 with
      |true =>
       have hR0:R=false:=by rw[←HD.out,HSt.out,HOp.out];simp
       have HR0:=hid hR0
       have hle:¬ xg≤LG:=by omega
       clear hR0
       go_wp2_with (first
        |(rw[←HW5.out];refine wpList_load_row (by rfl) 48 (.tmp 6) (by rfl) wr.heap.size (by rfl) 48 #[.int .i64 xg,.string xk,.int .i64 xf,.int .i64 xt] (0,0) _ B5.out Tryz.underlying48 rfl HI.out ?_)
        |(go_at_call 72;(try rw[←HW5.out]);refine (HIx.out _ (grown_trans HG.out G5.out)).mono ?_;rintro e w6 ⟨rfl,hg6⟩;have G6:=hid (grown_trans HG.out (grown_trans G5.out hg6));have hb6:=hold_b3 B5.out hg6;have d0:=cell_blk hb6 0 rfl;have d1:=cell_blk hb6 1 rfl;have lk:=HLk.out w6 (grown_trans G5.out hg6);clear hg6))
       go_ret
       exact ⟨by rw[HR0.out];rfl,G6.out⟩
      |false =>
       have hle:¬ xg≤LG:=by omega
       have hno:(l.take j).any (fun a=>decide (a.k=x.k))=false:=by rw[←HXk.out];exact HQ3.out.symm
       obtain ⟨es',cl',hu,hes⟩:=bk_put HM.out (HKt.out j) x (by rw[←HXk.out];exact HKx.out) hno
       rw[←HXk.out] at hu
       rw[←HSn.out] at hes
       have HU2:=hid hu
       have HES:=hid hes
       have hup:Upok l (j+1):=HU.out.succ (by rw[HXx.out,HOp.out,decide_eq_true hlt];rfl)
       have hd1:docA (l.take (j+1)) (l.drop (j+1))=R:=by rw[←HD.out,HSt.out,HOp.out,decide_eq_true hlt];rfl
       have HUp:=hid hup
       have HD1:=hid hd1
       clear hno hu hes hup hd1
       go_wp2_with (first
        |(rw[←HW5.out];refine wpList_load_row (by rfl) 48 (.tmp 6) (by rfl) wr.heap.size (by rfl) 48 #[.int .i64 xg,.string xk,.int .i64 xf,.int .i64 xt] (0,0) _ B5.out Tryz.underlying48 rfl HI.out ?_)
        |(go_at_call 72;(try rw[←HW5.out]);refine (HIx.out _ (grown_trans HG.out G5.out)).mono ?_;rintro e w6 ⟨rfl,hg6⟩;have G6:=hid (grown_trans HG.out (grown_trans G5.out hg6));have H56:=hid (grown_trans G5.out hg6);have hb6:=hold_b3 B5.out hg6;have d0:=cell_blk hb6 0 rfl;have d1:=cell_blk hb6 1 rfl;have lk:=HLk.out w6 (grown_trans G5.out hg6);clear hg6))
       refine wp_region_quiet_tail (fun w'=>∃ n,w'=w6.drewN n) 6 (by kernel_rfl) (by kernel_rfl) ⟨1,rfl⟩ ?_
       simp only[List.take_succ_cons,List.take_zero,List.drop_succ_cons,List.drop_zero,Act.put,List.setIfInBounds_toArray,List.set_cons_succ,List.set_cons_zero]
       repeat (go_big_quiet_step (fail))
       refine wpQuiet_nil ?_
       rintro _ ⟨n3,rfl⟩
       (try simp only[Act.put,List.setIfInBounds_toArray,List.set_cons_succ,List.set_cons_zero])
       refine wpList_upd (by rfl) (.tmp 37) (.tmp 39) (.const (.bool true)) (by rfl) _ _ _ (by rfl) (by rfl) (by rfl) (HU2.out (w6.drewN n3) (H56.out.block w.heap.size HMl.out (by simp))) ?_
       go_wp2
       go_roundw
       case rel=>exact ⟨j+1,by omega,by go_num,by rw[HLg.out],by rw[←HES.out];exact mapL_set (Nat.lt_of_lt_of_le HMl.out H56.out.size) _ _,grown_forget (grown_drewN G6.out n3) (Nat.le_refl _) (setB_grown _),HUp.out,HD1.out⟩
       case measure=>simp[intOf];omega
     ·have hR0:R=false:=by rw[←HD.out,HSt.out,HOp.out];simp[hlt]
      have HR0:=hid hR0
      have hle:xg≤LG:=by omega
      clear hR0
      go_wp2_with (first
       |(rw[←HW5.out];refine wpList_load_row (by rfl) 48 (.tmp 6) (by rfl) wr.heap.size (by rfl) 48 #[.int .i64 xg,.string xk,.int .i64 xf,.int .i64 xt] (0,0) _ B5.out Tryz.underlying48 rfl HI.out ?_)
       |(go_at_call 72;(try rw[←HW5.out]);refine (HIx.out _ (grown_trans HG.out G5.out)).mono ?_;rintro e w6 ⟨rfl,hg6⟩;have G6:=hid (grown_trans HG.out (grown_trans G5.out hg6));have hb6:=hold_b3 B5.out hg6;have d0:=cell_blk hb6 0 rfl;have d1:=cell_blk hb6 1 rfl;clear hg6))
      go_ret
      exact ⟨by rw[HR0.out];rfl,G6.out⟩
   ·have hR1:R=true:=by
     rw[←HD.out,show j=l.length by have:=HLn.out;omega,docA_end]
    have HR1:=hid hR1
    clear hR1
    go_wp2
    go_ret
    exact ⟨by rw[HR1.out];rfl,HG.out⟩
 ·have hok:okL l=false:=by unfold okL;rw[←hn,decide_eq_false h8,Bool.false_and]
  rw[hok,←hn]
  by_cases h1:n<1
  ·have hlo:(n:Int)<1:=by omega
   clear hA hl hk hE ha h0 hx h8 hok hn
   go_enter Tryz.func29,Tryz.ntmps29
   go_wp2
   go_ret
   exact ⟨rfl,grown_refl _ _⟩
  ·have hlo:¬ (n:Int)<1:=by omega
   have hhi:(8:Int)<(n:Int):=by omega
   clear hA hl hk hE ha h0 hx h8 hok hn
   go_enter Tryz.func29,Tryz.ntmps29
   go_wp2
   go_ret
   exact ⟨rfl,grown_refl _ _⟩
end Go.Proofs.YtjjbkpjjmbfdhaaGreatDoor
namespace Go.Proofs.YtjjbkpjjmbfdhaaGreatDoor
open Lib (hid)
open Go.RowKit Bu
theorem bd_info:(Tryz.prog.info? 24).map (·.size)=some 3:=by kernel_rfl
theorem bright_any (A:Nat→Addr) (v:Int) (sp:ByteArray) (a:Value) (l:List An) (w:World) (hA:Ans w a l) (hl:l.length≤1000) (hk:∀ x∈l,x.k.size≤1000) (hsp:sp.size≤1000) (hE:AllErrs w A) :
  Calls Tryz.prog 8 #[bval v sp a] w fun e w'=>e=.returned (.bool (right ⟨v,sp,l⟩))∧w.grownBy w' none:=by
 have HAr0:=hid (fun W (hg:w.grownBy W none)=>areAnchors_any A a l W (hA.grown hg) hl hk (hE.grown hg))
 obtain ⟨a0,g,o,c,rfl,-,-,-⟩:=hA.form
 obtain ⟨n,hn⟩:∃ n,n=l.length:=⟨_,rfl⟩
 rw[←hn] at HAr0 ⊢
 obtain ⟨w1,hw1⟩:∃ w1,w1=w.alloc (.cells #[.int .i64 v,.string sp,.slice a0 n c] 24):=⟨_,rfl⟩
 have hg1:w.grownBy w1 none:=by rw[hw1];exact World.grownBy_alloc _ _ _
 have hb1:w1.heap[w.heap.size]?=some (.cells #[.int .i64 v,.string sp,.slice a0 n c] 24 (0,0)):=by rw[hw1];exact alloc_at _ _
 have HB1:=hid hb1
 have HG1:=hid hg1
 have HW1:=hid hw1
 have HLb:=hid (label_any w1 sp w1 hsp (grown_refl _ _))
 have hr:right ⟨v,sp,l⟩=(decide (1≤v∧v≤1099511627776)&&(Pt.label (strL sp)&&okL l)):=rfl
 rw[hr]
 unfold bval
 have c0:=cell_blk hb1 0 rfl
 by_cases hv1:1≤v
 ·by_cases hv2:v≤1099511627776
  ·rw[decide_eq_true ⟨hv1,hv2⟩,Bool.true_and]
   cases hlb:Pt.label (strL sp) with
   |false =>
    rw[hlb] at HLb
    rw[Bool.false_and]
    rw[hw1] at c0
    clear hA hl hk hsp hE hw1 hg1 hb1 hr hlb HAr0 hn
    go_enter Tryz.func8,Tryz.ntmps8
    go_wp2_with (go_at_call 28;rw[←HW1.out];refine HLb.out.mono ?_;rintro e w2 ⟨hg2,rfl⟩;have G2:=hid hg2;clear hg2)
    go_ret
    exact ⟨rfl,grown_trans HG1.out G2.out⟩
   |true =>
    rw[hlb] at HLb
    rw[Bool.true_and]
    rw[hw1] at c0
    clear hA hl hk hsp hE hw1 hg1 hb1 hr hlb hn
    go_enter Tryz.func8,Tryz.ntmps8
    go_wp2_with (first
     |(go_at_call 28;rw[←HW1.out];refine HLb.out.mono ?_;rintro e w2 ⟨hg2,rfl⟩;have G2:=hid (grown_trans HG1.out hg2);have hb2:=hold_b3 HB1.out hg2;have d2:=cell_blk hb2 2 rfl;clear hg2 hb2)
     |(go_at_call 29;refine (HAr0.out _ G2.out).mono ?_;rintro e w3 ⟨rfl,hg3⟩;have G3:=hid (grown_trans G2.out hg3);clear hg3))
    go_ret
    exact ⟨rfl,G3.out⟩
  ·rw[decide_eq_false (by omega),Bool.false_and]
   rw[hw1] at c0
   clear hA hl hk hsp hE hw1 hb1 hr HAr0 hn HLb
   go_enter Tryz.func8,Tryz.ntmps8
   go_wp2
   go_ret
   exact ⟨rfl,by rw[←HW1.out];exact HG1.out⟩
 ·rw[decide_eq_false (by omega),Bool.false_and]
  rw[hw1] at c0
  clear hA hl hk hsp hE hw1 hb1 hr HAr0 hn HLb
  go_enter Tryz.func8,Tryz.ntmps8
  go_wp2
  go_ret
  exact ⟨rfl,by rw[←HW1.out];exact HG1.out⟩
def nextV (A:Nat→Addr) (v:Int) (sp:ByteArray) (a:Value) (l:List An):Value :=
 if right ⟨wrap64 (v+1),sp,l⟩=true then .tuple #[bval (wrap64 (v+1)) sp a,.nilIface] else .tuple #[bval 0 ⟨#[]⟩ (.slice none 0 0),errV A 4]
theorem bnext_any (A:Nat→Addr) (v:Int) (sp:ByteArray) (ao a:Value) (lo l:List An) (w:World) (hAo:Ans w ao lo) (hA:Ans w a l) (hl:l.length≤1000) (hk:∀ x∈l,x.k.size≤1000) (hsp:sp.size≤1000) (hE:AllErrs w A) :
  Calls Tryz.prog 52 #[bval v sp ao,a] w fun e w'=>e=.returned (nextV A v sp a l)∧w.grownBy w' none:=by
 obtain ⟨ao0,go,oo,co,rfl,-,-,-⟩:=hAo.form
 have HRt:=hid (fun W (hg:w.grownBy W none)=>bright_any A (wrap64 (v+1)) sp a l W (hA.grown hg) hl hk hsp (hE.grown hg))
 obtain ⟨a0,g,o,c,rfl,-,-,-⟩:=hA.form
 have HEr:=hid (fun W (hg:w.grownBy W none)=>(hE.grown hg).at_ 3 (by omega))
 obtain ⟨n,hn⟩:∃ n,n=l.length:=⟨_,rfl⟩
 obtain ⟨no,hno⟩:∃ no,no=lo.length:=⟨_,rfl⟩
 rw[←hn] at HRt ⊢
 rw[←hno]
 have hI:=bd_info
 unfold nextV
 obtain ⟨w4,hw4⟩:∃ w4,w4=(w.alloc (.cells #[.int .i64 (wrap64 (v+1)),.string sp,.slice a0 n c] 24)).alloc (.cells #[.int .i64 0,.string ⟨#[]⟩,.slice none 0 0] 24):=⟨_,rfl⟩
 have hg4:w.grownBy w4 none:=by rw[hw4];exact grown_alloc (World.grownBy_alloc _ _ _) _
 have hb4:w4.heap[w.heap.size]?=some (.cells #[.int .i64 (wrap64 (v+1)),.string sp,.slice a0 n c] 24 (0,0)):=by rw[hw4];exact alloc2_old _ _ _
 have hz4:w4.heap[w.heap.size+1]?=some (.cells #[.int .i64 0,.string ⟨#[]⟩,.slice none 0 0] 24 (0,0)):=by rw[hw4];exact alloc2_new _ _ _
 have HW4:=hid hw4
 have HG4:=hid hg4
 have HB4:=hid hb4
 have HZ4:=hid hz4
 have HEz:=hid (hE.lt 3 (by omega))
 unfold bval at HRt ⊢
 cases hrt:right ⟨(wrap64 (v+1)),sp,l⟩ with
 |true =>
  rw[hrt] at HRt
  rw[if_pos rfl]
  clear hAo hA hl hk hsp hE hn hno hw4 hg4 hb4 hz4 hrt HEr HEz
  go_enter Tryz.func52,Tryz.ntmps52
  go_wp2_with (first
   |(rw[←HW4.out];refine wpList_load_row (by rfl) 24 (.tmp 2) (by rfl) w.heap.size (by rfl) 24 #[.int .i64 (wrap64 (v+1)),.string sp,.slice a0 n c] (0,0) _ HB4.out Tryz.underlying24 rfl hI ?_)
   |(go_at_call 8;(try rw[←HW4.out]);refine (HRt.out _ HG4.out).mono ?_;rintro e w5 ⟨rfl,hg5⟩;have HB5:=hid (hold_b3 HB4.out hg5);have HZ5:=hid (hold_b3 HZ4.out hg5);have HG5:=hid (grown_trans HG4.out hg5);have y0:=free_blk HZ5.out 0;have y1:=free_blk HZ5.out 1;have y2:=free_blk HZ5.out 2;have z0:=cell_blk HZ5.out 0 rfl;have z1:=cell_blk HZ5.out 1 rfl;have z2:=cell_blk HZ5.out 2 rfl;clear hg5)
   |(refine wpList_load_row (by rfl) 24 (.tmp 2) (by rfl) w.heap.size (by rfl) 24 #[.int .i64 (wrap64 (v+1)),.string sp,.slice a0 n c] (0,0) _ HB5.out Tryz.underlying24 rfl hI ?_))
  refine bodyPost_ret (v:=.tuple #[.agg #[.int .i64 (wrap64 (v+1)),.string sp,.slice a0 n c],.nilIface]) ?_ rfl ⟨rfl,grown_set (grown_set (grown_set HG5.out (.inl (Nat.le_succ _)) _) (.inl (Nat.le_succ _)) _) (.inl (Nat.le_succ _)) _⟩
  exact results_rowT Tryz.results52 _ _ (w.heap.size+1) _ _ (0,0) _ _ rfl (set3 HZ5.out) Tryz.underlying24 rfl hI rfl
 |false =>
  rw[hrt] at HRt
  rw[if_neg (by decide)]
  clear hAo hA hl hk hsp hE hn hno hw4 hg4 hb4 hz4 hrt
  go_enter Tryz.func52,Tryz.ntmps52
  go_wp2_with (first
   |(rw[←HW4.out];refine wpList_load_row (by rfl) 24 (.tmp 2) (by rfl) w.heap.size (by rfl) 24 #[.int .i64 (wrap64 (v+1)),.string sp,.slice a0 n c] (0,0) _ HB4.out Tryz.underlying24 rfl hI ?_)
   |(go_at_call 8;(try rw[←HW4.out]);refine (HRt.out _ HG4.out).mono ?_;rintro e w5 ⟨rfl,hg5⟩;have HB5:=hid (hold_b3 HB4.out hg5);have HZ5:=hid (hold_b3 HZ4.out hg5);have HG5:=hid (grown_trans HG4.out hg5);have y0:=free_blk HZ5.out 0;have y1:=free_blk HZ5.out 1;have y2:=free_blk HZ5.out 2;have z0:=cell_blk HZ5.out 0 rfl;have z1:=cell_blk HZ5.out 1 rfl;have z2:=cell_blk HZ5.out 2 rfl;clear hg5))
  have he:=HEr.out _ HG5.out
  have hz:0<w.heap.size:=HEz.out
  have hz1:w.heap.size+1≠0:=by omega
  have hz2:0≠w.heap.size+1:=by omega
  replace he:w5.cell? ⟨0,0,none⟩=some (errV A 4):=he
  go_region
  go_wp2
  refine bodyPost_ret (v:=.tuple #[.agg #[.int .i64 0,.string ⟨#[]⟩,.slice none 0 0],errV A 4]) ?_ rfl ⟨rfl,?_⟩
  ·exact results_rowT Tryz.results52 _ _ (w.heap.size+1) _ _ (0,0) _ _ rfl (set3 HZ5.out) Tryz.underlying24 rfl hI rfl
  ·exact grown_drewN (grown_set (grown_set (grown_set HG5.out (.inl (Nat.le_succ _)) _) (.inl (Nat.le_succ _)) _) (.inl (Nat.le_succ _)) _) 1
theorem strT_inj {a b:ByteArray} (h:a.toList=b.toList):a=b:=by
 rw[ByteArray.toList_eq,ByteArray.toList_eq] at h
 obtain ⟨a⟩:=a
 obtain ⟨b⟩:=b
 exact congrArg ByteArray.mk (Array.toList_inj.1 h)
theorem beq_str (a b:ByteArray):(a.toList==b.toList)=decide (a=b):=by
 rw[Bool.eq_iff_iff,beq_iff_eq,decide_eq_true_eq]
 exact ⟨strT_inj,fun h=>by rw[h]⟩
def qG (g:Int) (x:An):Bool:=decide (x.g=g)
def ixB (q:An→Bool):List An→Int
 |[]=>-1
 |x :: r=>if q x=true then 0 else if ixB q r=-1 then -1 else ixB q r+1
theorem ixB_at:∀ {l:List An} {q:An→Bool} {k:Nat},k<l.length→(∀ j,j<k→q (l.getD j an0)=false)→q (l.getD k an0)=true→ixB q l=k
 |[],_,k,h,_,_=>absurd h (Nat.not_lt_zero _)
 |x :: r,q,0,_,_,h=>by rw[ixB,if_pos (by simpa using h)];rfl
 |x :: r,q,k+1,hk,hj,h=>by
  rw[ixB,if_neg (by have:=hj 0 (by omega);simpa using this),ixB_at (k:=k) (by simpa using hk) (fun j hjk=>by simpa using hj (j+1) (by omega)) (by simpa using h),if_neg (by omega)]
  omega
theorem ixB_none:∀ {l:List An} {q:An→Bool},(∀ j,j<l.length→q (l.getD j an0)=false)→ixB q l=-1
 |[],_,_=>rfl
 |x :: r,q,h=>by
  rw[ixB,if_neg (by have:=h 0 (by simp);simpa using this),ixB_none (fun j hj=>by simpa using h (j+1) (by simpa using hj)),if_pos rfl]
theorem qG_any (x:An) (g:Int) (p:Nat) (w:World) (hp:w.cell? ⟨p,0,none⟩=some (.int .i64 g)):Calls Tryz.prog 51 #[x.val,.pointer (some ⟨p,0,none⟩)] w fun e w'=>e=.returned (.bool (qG g x))∧w.grownBy w' none:=by
 obtain ⟨xg,xk,xf,xt⟩:=x
 have hv:An.val ⟨xg,xk,xf,xt⟩=.agg #[.int .i64 xg,.string xk,.int .i64 xf,.int .i64 xt]:=rfl
 have hq:qG g ⟨xg,xk,xf,xt⟩=decide (xg=g):=rfl
 have hlt:p<w.heap.size:=World.block_lt_of_cell? w _ hp
 have hb:(xg==g)=decide (xg=g):=by rw[Bool.eq_iff_iff,beq_iff_eq,decide_eq_true_eq]
 have HB:=hid hb
 rw[hv,hq]
 clear hv hq hb
 go_enter Tryz.func51,Tryz.ntmps51
 go_wp2
 go_ret
 exact ⟨by first|rfl|rw[←HB.out],grown_alloc (grown_refl _ _) _⟩
theorem ixG_any (v:Value) (l:List An) (g:Int) (p9:Nat) (w:World) (hA:Ans w v l) (hp:w.cell? ⟨p9,0,none⟩=some (.int .i64 g)) (hl:l.length≤2000) :
  Calls Tryz.prog 50 #[v,.func (.func 51) #[] #[.pointer (some ⟨p9,0,none⟩)]] w fun e w'=>e=.returned (.int .i64 (ixB (qG g) l))∧w.grownBy w' none:=by
 obtain ⟨a1,b1,s1,c1,rfl,ha1,_,hx1⟩:=hA.form
 have HOf:=hid (fun W (hg:w.grownBy W none) p=>qG_any p g p9 W ((World.cell?_of_block (hg.block p9 (World.block_lt_of_cell? w _ hp) (by simp))).trans hp))
 have HX1:=hid (fun W (hg:w.grownBy W none) i (hi:i<l.length)=>(show W.cell? ⟨b1,s1+i*4,none⟩=some (.int .i64 (l.getD i an0).g)∧W.cell? ⟨b1,s1+i*4+1,none⟩=some (.string (l.getD i an0).k)∧W.cell? ⟨b1,s1+i*4+2,none⟩=some (.int .i64 (l.getD i an0).f)∧W.cell? ⟨b1,s1+i*4+3,none⟩=some (.int .i64 (l.getD i an0).t) from by
  have hb:=hg.block b1 (ha1 (by omega)).2 (by simp)
  obtain ⟨k1,k2,k3,k4⟩:=hx1 i hi
  exact ⟨(World.cell?_of_block hb).trans k1,(World.cell?_of_block hb).trans k2,(World.cell?_of_block hb).trans k3,(World.cell?_of_block hb).trans k4⟩))
 obtain ⟨q,hq⟩:∃ q,q=qG g:=⟨_,rfl⟩
 rw[←hq] at HOf ⊢
 have HF:Hid (∀ k,k<l.length→(∀ j,j<k→q (l.getD j an0)=false)→q (l.getD k an0)=true→ixB q l=k):=hid (fun k=>ixB_at)
 have HNn:Hid ((∀ j,j<l.length→q (l.getD j an0)=false)→ixB q l=-1):=hid ixB_none
 generalize ixB q l=R at *
 obtain ⟨N,hN⟩:∃ N,N=l.length:=⟨_,rfl⟩
 have HA1:Hid (0<N→a1=some ⟨b1,s1,none⟩):=hid (fun h=>(ha1 (by omega)).1)
 rw[←hN] at HX1 HF HNn
 rw[←hN]
 have hNl:N≤2000:=by omega
 clear ha1 hx1 hl hN hA hq hp
 go_enter Tryz.func50,Tryz.ntmps50
 go_wp2
 go_loopw [8,5] (fun i _ wr=>∃ k:Nat,k≤N∧i=.int .i64 (k:Int)∧w.grownBy wr none∧∀ j,j<k→q (l.getD j an0)=false) (fun i _ _=>N-(intOf i).toNat)
 case atStart=>exact ⟨0,by omega,rfl,grown_refl _ _,fun j hj=>absurd hj (Nat.not_lt_zero _)⟩
 case round =>
  obtain ⟨k,hk,rfl,hg,h0⟩:=hrel
  have HG:=hid hg
  have H0:=hid h0
  clear hg h0
  by_cases hkN:k<N
  ·obtain ⟨x0,x1,x2,x3⟩:=HX1.out wr HG.out k hkN
   obtain rfl:=HA1.out (by omega)
   have HC:=hid (HOf.out wr HG.out (l.getD k an0))
   have HVl:Hid ((l.getD k an0).val=.agg #[.int .i64 (l.getD k an0).g,.string (l.getD k an0).k,.int .i64 (l.getD k an0).f,.int .i64 (l.getD k an0).t]):=hid rfl
   rw[HVl.out] at HC
   clear HVl
   cases he:q (l.getD k an0) with
   |true =>
    rw[he] at HC
    have HY:Hid (R=k):=hid (HF.out k hkN H0.out he)
    generalize (l.getD k an0).g=p1 at *
    generalize (l.getD k an0).k=p2 at *
    generalize (l.getD k an0).f=p3 at *
    generalize (l.getD k an0).t=p4 at *
    clear he
    go_wp2_with (go_at_call 51;refine HC.out.mono ?_;rintro e w2 ⟨rfl,hg2⟩;have HG2:=hid (grown_trans HG.out hg2);clear hg2)
    go_ret
    exact ⟨by rw[HY.out];rfl,HG2.out⟩
   |false =>
    rw[he] at HC
    have HN2:Hid (∀ j,j<k+1→q (l.getD j an0)=false):=hid (fun j hj=>by
     rcases Nat.lt_or_ge j k with h|h
     ·exact H0.out j h
     ·obtain rfl:j=k:=by omega
      exact he)
    generalize (l.getD k an0).g=p1 at *
    generalize (l.getD k an0).k=p2 at *
    generalize (l.getD k an0).f=p3 at *
    generalize (l.getD k an0).t=p4 at *
    clear he
    go_wp2_with (go_at_call 51;refine HC.out.mono ?_;rintro e w2 ⟨rfl,hg2⟩;have HG2:=hid (grown_trans HG.out hg2);clear hg2)
    go_roundw
    case rel=>exact ⟨k+1,by omega,by go_num,HG2.out,HN2.out⟩
    case measure=>simp[intOf];omega
  ·obtain rfl:k=N:=by omega
   have HY:Hid (R=-1):=hid (HNn.out H0.out)
   go_wp2
   go_ret
   exact ⟨by rw[HY.out];rfl,HG.out⟩
theorem an_ne {p q:An} (h:p≠q):(p.g≠q.g)∨(p.g=q.g∧¬ p.k.toList=q.k.toList)∨(p.g=q.g∧p.k=q.k∧p.f≠q.f)∨(p.g=q.g∧p.k=q.k∧p.f=q.f∧p.t≠q.t):=by
 by_cases h1:p.g=q.g
 ·by_cases h2:p.k=q.k
  ·by_cases h3:p.f=q.f
   ·refine .inr (.inr (.inr ⟨h1,h2,h3,fun h4=>h ?_⟩))
    cases p;cases q
    simp only at h1 h2 h3 h4
    rw[h1,h2,h3,h4]
   ·exact .inr (.inr (.inl ⟨h1,h2,h3⟩))
  ·exact .inr (.inl ⟨h1,fun h3=>h2 (strT_inj h3)⟩)
 ·exact .inl h1
theorem an_ext {l m:List An} (h:l.length=m.length) (h2:∀ j,j<l.length→l.getD j an0=m.getD j an0):l=m:=by
 apply List.ext_getElem h
 intro i hi hi2
 have:=h2 i hi
 rw[List.getD_eq_getElem?_getD,List.getD_eq_getElem?_getD,List.getElem?_eq_getElem hi,List.getElem?_eq_getElem hi2] at this
 simpa using this
theorem Ans.cells_at {w:World} {a:Option Addr} {g o:Nat} {l:List An} (ha:0<l.length→a=some ⟨g,o,none⟩∧g<w.heap.size) (hx:∀ i,i<l.length→w.cell? ⟨g,o+i*4,none⟩=some (.int .i64 (l.getD i an0).g)∧w.cell? ⟨g,o+i*4+1,none⟩=some (.string (l.getD i an0).k)∧w.cell? ⟨g,o+i*4+2,none⟩=some (.int .i64 (l.getD i an0).f)∧w.cell? ⟨g,o+i*4+3,none⟩=some (.int .i64 (l.getD i an0).t)) :
  ∀ W,w.grownBy W none→∀ i,i<l.length→W.cell? ⟨g,o+i*4,none⟩=some (.int .i64 (l.getD i an0).g)∧W.cell? ⟨g,o+i*4+1,none⟩=some (.string (l.getD i an0).k)∧W.cell? ⟨g,o+i*4+2,none⟩=some (.int .i64 (l.getD i an0).f)∧W.cell? ⟨g,o+i*4+3,none⟩=some (.int .i64 (l.getD i an0).t):=by
 intro W hg i hi
 have hb:=hg.block g (ha (by omega)).2 (by simp)
 obtain ⟨k1,k2,k3,k4⟩:=hx i hi
 exact ⟨(World.cell?_of_block hb).trans k1,(World.cell?_of_block hb).trans k2,(World.cell?_of_block hb).trans k3,(World.cell?_of_block hb).trans k4⟩
theorem anEqual_any (v u:Value) (l m:List An) (w:World) (hA:Ans w v l) (hB:Ans w u m) (hl:l.length≤2000) (hm:m.length≤2000) :
  Calls Tryz.prog 32 #[v,u] w fun e w'=>(∃ b:Bool,e=.returned (.bool b)∧(b=true↔l=m))∧w.grownBy w' none:=by
 obtain ⟨a1,b1,s1,c1,rfl,ha1,_,hx1⟩:=hA.form
 obtain ⟨a2,b2,s2,c2,rfl,ha2,_,hx2⟩:=hB.form
 have HX1:=hid (Ans.cells_at ha1 hx1)
 have HX2:=hid (Ans.cells_at ha2 hx2)
 by_cases hnm:l.length=m.length
 ·have HEx:Hid ((∀ j,j<l.length→l.getD j an0=m.getD j an0)→l=m):=hid (fun h=>an_ext hnm h)
  obtain ⟨N,hN⟩:∃ N,N=l.length:=⟨_,rfl⟩
  have HA1:Hid (0<N→a1=some ⟨b1,s1,none⟩):=hid (fun h=>(ha1 (by omega)).1)
  have HA2:Hid (0<N→a2=some ⟨b2,s2,none⟩):=hid (fun h=>(ha2 (by omega)).1)
  rw[←hN] at HX1 HEx hnm ⊢
  rw[←hnm] at HX2 ⊢
  have hNl:N≤2000:=by omega
  clear hA hB hl hm ha1 ha2 hx1 hx2 hN hnm
  go_enter Tryz.func32,Tryz.ntmps32
  go_wp2
  go_loopw [13,5] (fun i _ wr=>∃ k:Nat,k≤N∧i=.int .i64 (k:Int)∧w.grownBy wr none∧∀ j,j<k→l.getD j an0=m.getD j an0) (fun i _ _=>N-(intOf i).toNat)
  case atStart=>exact ⟨0,by omega,rfl,grown_refl _ _,fun j hj=>absurd hj (Nat.not_lt_zero _)⟩
  case round =>
   obtain ⟨k,hk,rfl,hg,h0⟩:=hrel
   have HG:=hid hg
   have H0:=hid h0
   clear hg h0
   by_cases hkN:k<N
   ·obtain ⟨x0,x1,x2,x3⟩:=HX1.out wr HG.out k hkN
    obtain ⟨y0,y1,y2,y3⟩:=HX2.out wr HG.out k hkN
    obtain rfl:=HA1.out (by omega)
    have ha2:=HA2.out (by omega)
    try subst ha2
    try clear ha2
    by_cases he:l.getD k an0=m.getD k an0
    ·have HN2:Hid (∀ j,j<k+1→l.getD j an0=m.getD j an0):=hid (fun j hj=>by
      rcases Nat.lt_or_ge j k with h|h
      ·exact H0.out j h
      ·obtain rfl:j=k:=by omega
       exact he)
     rw[←he] at y0 y1 y2 y3
     generalize (l.getD k an0).g=p1 at *
     generalize (l.getD k an0).k=p2 at *
     generalize (l.getD k an0).f=p3 at *
     generalize (l.getD k an0).t=p4 at *
     clear he
     go_wp2
     go_quiet (fail)
     go_wp2
     go_roundw
     case rel=>exact ⟨k+1,by omega,by go_num,grown_drewN HG.out _,HN2.out⟩
     case measure=>simp[intOf] <;> omega
    ·have HNe:Hid (l≠m):=hid (fun h=>he (by rw[h]))
     have hc:=an_ne he
     generalize (l.getD k an0).g=p1 at *
     generalize (l.getD k an0).k=p2 at *
     generalize (l.getD k an0).f=p3 at *
     generalize (l.getD k an0).t=p4 at *
     generalize (m.getD k an0).g=q1 at *
     generalize (m.getD k an0).k=q2 at *
     generalize (m.getD k an0).f=q3 at *
     generalize (m.getD k an0).t=q4 at *
     clear he
     rcases hc with hc|⟨rfl,hc⟩|⟨rfl,rfl,hc⟩|⟨rfl,rfl,rfl,hc⟩
     all_goals
      go_wp2
      go_quiet (fail)
      go_wp2
      go_ret
      exact ⟨⟨false,rfl,⟨fun h=>(by cases h),fun h=>absurd h HNe.out⟩⟩,grown_drewN HG.out _⟩
   ·obtain rfl:k=N:=by omega
    have HY:=hid (HEx.out H0.out)
    go_wp2
    go_ret
    exact ⟨⟨true,rfl,⟨fun _=>HY.out,fun _=>rfl⟩⟩,HG.out⟩
 ·have hne:¬ (l.length:Int)=(m.length:Int):=by omega
  have HNe:Hid (l≠m):=hid (fun h=>hnm (by rw[h]))
  clear hA hB hl hm ha1 ha2 hx1 hx2 hnm HX1 HX2
  generalize l.length=N at *
  generalize m.length=M at *
  go_enter Tryz.func32,Tryz.ntmps32
  go_wp2
  go_ret
  exact ⟨⟨false,rfl,⟨fun h=>(by cases h),fun h=>absurd h HNe.out⟩⟩,grown_refl _ _⟩
theorem bsame_any (v u:Int) (sp sq:ByteArray) (a b:Value) (l m:List An) (w:World) (hA:Ans w a l) (hB:Ans w b m) (hl:l.length≤2000) (hm:m.length≤2000) :
  Calls Tryz.prog 10 #[bval v sp a,bval u sq b] w fun e w'=>(∃ q:Bool,e=.returned (.bool q)∧(q=true↔(v=u∧sp=sq∧l=m)))∧w.grownBy w' none:=by
 obtain ⟨w1,hw1⟩:∃ w1,w1=(w.alloc (.cells #[.int .i64 v,.string sp,a] 24)).alloc (.cells #[.int .i64 u,.string sq,b] 24):=⟨_,rfl⟩
 have hg1:w.grownBy w1 none:=by rw[hw1];exact grown_alloc (World.grownBy_alloc _ _ _) _
 have b0:w1.heap[w.heap.size]?=some (.cells #[.int .i64 v,.string sp,a] 24 (0,0)):=by rw[hw1];exact alloc2_old _ _ _
 have b1:w1.heap[w.heap.size+1]?=some (.cells #[.int .i64 u,.string sq,b] 24 (0,0)):=by rw[hw1];exact alloc2_new _ _ _
 have HEq:=hid (anEqual_any a b l m w1 (hA.grown hg1) (hB.grown hg1) hl hm)
 obtain ⟨a1,g1,s1,c1,rfl,_,_,_⟩:=hA.form
 obtain ⟨a2,g2,s2,c2,rfl,_,_,_⟩:=hB.form
 have HW1:=hid hw1
 have HG1:=hid hg1
 unfold bval
 by_cases hv:v=u
 ·subst hv
  by_cases hs:sp=sq
  ·subst hs
   clear hA hB hl hm hw1 hg1 b0 b1
   go_enter Tryz.func10,Tryz.ntmps10
   go_wp2_with (go_at_call 32;rw[←HW1.out];refine HEq.out.mono ?_;rintro e w2 ⟨⟨q,rfl,hq⟩,hg2⟩;have HQ:=hid hq;have HG2:=hid (grown_trans HG1.out hg2);clear hq hg2)
   go_ret
   exact ⟨⟨q,rfl,by rw[HQ.out];simp⟩,HG2.out⟩
  ·have hs2:¬ sp.toList=sq.toList:=fun h=>hs (strT_inj h)
   clear hA hB hl hm hw1 hg1 b0 b1
   go_enter Tryz.func10,Tryz.ntmps10
   go_wp2
   go_ret
   exact ⟨⟨false,rfl,by simp[hs]⟩,by rw[←HW1.out];exact HG1.out⟩
 ·have hv2:(v==u)=false:=by rw[beq_eq_false_iff_ne];exact hv
  clear hA hB hl hm hw1 hg1 b0 b1
  go_enter Tryz.func10,Tryz.ntmps10
  go_wp2
  go_ret
  exact ⟨⟨false,rfl,by simp[hv]⟩,by rw[←HW1.out];exact HG1.out⟩
theorem ran_info:(Tryz.prog.info? 43).map (·.size)=some 4:=by kernel_rfl
theorem refSameB_any (v u:Int) (sp sq:ByteArray) (a b:Value) (l m:List An) (w:World) (hA:Ans w a l) (hB:Ans w b m) (hl:l.length≤2000) (hm:m.length≤2000) :
  Calls Tryz.prog 14 #[bval v sp a,bval u sq b] w fun e w'=>(∃ q:Bool,e=.returned (.bool q)∧(q=true↔(v=u∧sp=sq∧l=m)))∧w.grownBy w' none:=by
 obtain ⟨w1,hw1⟩:∃ w1,w1=(w.alloc (.cells #[.int .i64 v,.string sp,a] 34)).alloc (.cells #[.int .i64 u,.string sq,b] 34):=⟨_,rfl⟩
 have hg1:w.grownBy w1 none:=by rw[hw1];exact grown_alloc (World.grownBy_alloc _ _ _) _
 have b0:w1.heap[w.heap.size]?=some (.cells #[.int .i64 v,.string sp,a] 34 (0,0)):=by rw[hw1];exact alloc2_old _ _ _
 have b1:w1.heap[w.heap.size+1]?=some (.cells #[.int .i64 u,.string sq,b] 34 (0,0)):=by rw[hw1];exact alloc2_new _ _ _
 obtain ⟨a1,g1,s1,c1,rfl,ha1,_,hx1⟩:=(hA.grown hg1).form
 obtain ⟨a2,g2,s2,c2,rfl,ha2,_,hx2⟩:=(hB.grown hg1).form
 have HW1:=hid hw1
 have HG1:=hid hg1
 unfold bval
 by_cases hv:v=u
 ·subst hv
  by_cases hs:sp=sq
  ·subst hs
   by_cases hnm:l.length=m.length
   ·have HX1:=hid (Ans.cells_at ha1 hx1)
    have HX2:=hid (Ans.cells_at ha2 hx2)
    have HEx:Hid ((∀ j,j<l.length→l.getD j an0=m.getD j an0)→l=m):=hid (fun h=>an_ext hnm h)
    obtain ⟨N,hN⟩:∃ N,N=l.length:=⟨_,rfl⟩
    have HA1:Hid (0<N→a1=some ⟨g1,s1,none⟩):=hid (fun h=>(ha1 (by omega)).1)
    have HA2:Hid (0<N→a2=some ⟨g2,s2,none⟩):=hid (fun h=>(ha2 (by omega)).1)
    rw[←hN] at HX1 HEx hnm b0 HW1 ⊢
    rw[←hnm] at HX2 b1 HW1 ⊢
    have HB0:=hid b0
    have HB1:=hid b1
    have hNl:N≤2000:=by omega
    clear hA hB hl hm ha1 ha2 hx1 hx2 hN hnm hw1 hg1 b0 b1
    go_enter Tryz.func14,Tryz.ntmps14
    go_wp2
    rw[←HW1.out]
    go_loopw [30,5] (fun i _ wr=>∃ k:Nat,k≤N∧i=.int .i64 (k:Int)∧w1.grownBy wr none∧∀ j,j<k→l.getD j an0=m.getD j an0) (fun i _ _=>N-(intOf i).toNat)
    case atStart=>exact ⟨0,by omega,rfl,grown_refl _ _,fun j hj=>absurd hj (Nat.not_lt_zero _)⟩
    case round =>
     obtain ⟨k,hk,rfl,hg,h0⟩:=hrel
     have HG:=hid hg
     have H0:=hid h0
     clear hg h0
     by_cases hkN:k<N
     ·obtain ⟨x0,x1,x2,x3⟩:=HX1.out wr HG.out k hkN
      obtain ⟨y0,y1,y2,y3⟩:=HX2.out wr HG.out k hkN
      have e0:=cell_blk (hold_b3 HB0.out HG.out) 2 rfl
      have e1:=cell_blk (hold_b3 HB1.out HG.out) 2 rfl
      obtain rfl:=HA1.out (by omega)
      have ha2:=HA2.out (by omega)
      try subst ha2
      try clear ha2
      by_cases he:l.getD k an0=m.getD k an0
      ·have HN2:Hid (∀ j,j<k+1→l.getD j an0=m.getD j an0):=hid (fun j hj=>by
        rcases Nat.lt_or_ge j k with h|h
        ·exact H0.out j h
        ·obtain rfl:j=k:=by omega
         exact he)
       rw[←he] at y0 y1 y2 y3
       generalize (l.getD k an0).g=p1 at *
       generalize (l.getD k an0).k=p2 at *
       generalize (l.getD k an0).f=p3 at *
       generalize (l.getD k an0).t=p4 at *
       clear he
       go_wp2
       go_quiet (fail)
       go_wp2
       go_roundw
       case rel=>exact ⟨k+1,by omega,by go_num,grown_drewN HG.out _,HN2.out⟩
       case measure=>simp[intOf] <;> omega
      ·have HNe:Hid (l≠m):=hid (fun h=>he (by rw[h]))
       have hc:=an_ne he
       generalize (l.getD k an0).g=p1 at *
       generalize (l.getD k an0).k=p2 at *
       generalize (l.getD k an0).f=p3 at *
       generalize (l.getD k an0).t=p4 at *
       generalize (m.getD k an0).g=q1 at *
       generalize (m.getD k an0).k=q2 at *
       generalize (m.getD k an0).f=q3 at *
       generalize (m.getD k an0).t=q4 at *
       clear he
       rcases hc with hc|⟨rfl,hc⟩|⟨rfl,rfl,hc⟩|⟨rfl,rfl,rfl,hc⟩
       all_goals
        go_wp2
        go_quiet (fail)
        go_wp2
        go_ret
        exact ⟨⟨false,rfl,⟨fun h=>(by cases h),fun h=>absurd h.2.2 HNe.out⟩⟩,grown_drewN (grown_trans HG1.out HG.out) _⟩
     ·obtain rfl:k=N:=by omega
      have HY:=hid (HEx.out H0.out)
      go_wp2
      go_ret
      exact ⟨⟨true,rfl,⟨fun _=>⟨trivial,trivial,HY.out⟩,fun _=>rfl⟩⟩,grown_trans HG1.out HG.out⟩
   ·have hne:¬ (l.length:Int)=(m.length:Int):=by omega
    have HNe:Hid (l≠m):=hid (fun h=>hnm (by rw[h]))
    clear hA hB hl hm ha1 ha2 hx1 hx2 hnm hw1 hg1 b0 b1
    generalize l.length=N at *
    generalize m.length=M at *
    go_enter Tryz.func14,Tryz.ntmps14
    go_wp2
    go_ret
    exact ⟨⟨false,rfl,⟨fun h=>(by cases h),fun h=>absurd h.2.2 HNe.out⟩⟩,by rw[←HW1.out];exact HG1.out⟩
  ·have hs2:¬ sp.toList=sq.toList:=fun h=>hs (strT_inj h)
   clear hA hB hl hm hw1 hg1 b0 b1 ha1 ha2 hx1 hx2
   go_enter Tryz.func14,Tryz.ntmps14
   go_wp2
   go_ret
   exact ⟨⟨false,rfl,by simp[hs]⟩,by rw[←HW1.out];exact HG1.out⟩
 ·have hv2:(v==u)=false:=by rw[beq_eq_false_iff_ne];exact hv
  have hv3:(v != u)=true:=by rw[bne_iff_ne];exact hv
  clear hA hB hl hm hw1 hg1 b0 b1 ha1 ha2 hx1 hx2
  go_enter Tryz.func14,Tryz.ntmps14
  go_wp2
  go_ret
  exact ⟨⟨false,rfl,by simp[hv]⟩,by rw[←HW1.out];exact HG1.out⟩
theorem refID_any (s:ByteArray) (w:World) (hs:s.size≤1000) :
  Calls Tryz.prog 31 #[.string s] w fun e w'=>e=.returned (.bool (okKey s))∧w.grownBy w' none:=by
 have HB:=hid (refBytes_any s w (by omega))
 obtain ⟨K,hK⟩:∃ K,K=okKey s:=⟨_,rfl⟩
 rw[←hK]
 unfold okKey at hK
 unfold RbPost at HB
 have HK:=hid hK
 clear hK hs
 go_enter Tryz.func31,Tryz.ntmps31
 go_wp2_with (go_at_call 73;refine HB.out.mono ?_;rintro e w1 ⟨hp,hg⟩;have HG:=hid hg;clear hg;rcases hp with ⟨h1,rfl⟩|⟨h1,a,m,c,rfl,-⟩)
 ·go_wp2
  go_ret
  exact ⟨by rw[HK.out,h1,Bool.and_false];rfl,HG.out⟩
 ·go_wp2
  go_ret
  exact ⟨by rw[HK.out,h1,Bool.and_true];rfl,HG.out⟩
theorem refRightB_any (v:Int) (sp:ByteArray) (a:Value) (l:List An) (w:World) (hA:Ans w a l) (hl:l.length≤2000) (hk:∀ x∈l,x.k.size≤1000) (hsp:sp.size≤1000) :
  Calls Tryz.prog 9 #[bval v sp a] w fun e w'=>e=.returned (.bool (right ⟨v,sp,l⟩))∧w.grownBy w' none:=by
 obtain ⟨w1,hw1⟩:∃ w1,w1=w.alloc (.cells #[.int .i64 v,.string sp,a] 34):=⟨_,rfl⟩
 have hg1:w.grownBy w1 none:=by rw[hw1];exact World.grownBy_alloc _ _ _
 have b0:w1.heap[w.heap.size]?=some (.cells #[.int .i64 v,.string sp,a] 34 (0,0)):=by rw[hw1];exact alloc_at _ _
 obtain ⟨a1,g1,s1,c1,rfl,ha1,_,hx1⟩:=(hA.grown hg1).form
 have HW1:=hid hw1
 have HG1:=hid hg1
 have HLb:=hid (fun W=>refLabel_any sp (by omega) W)
 have hr:right ⟨v,sp,l⟩=(decide (1≤v∧v≤1099511627776)&&(Pt.label (strL sp)&&(decide (1≤l.length∧l.length≤8)&&docA [] l))):=rfl
 obtain ⟨R0,hR0⟩:∃ R0,R0=right ⟨v,sp,l⟩:=⟨_,rfl⟩
 rw[←hR0]
 rw[hr] at hR0
 clear hr
 unfold bval
 obtain ⟨n,hn⟩:∃ n,n=l.length:=⟨_,rfl⟩
 rw[←hn] at hR0 b0 HW1 ⊢
 have HB0:=hid b0
 by_cases hv1:v<1
 ·have HR0:Hid (R0=false):=hid (by rw[hR0,decide_eq_false (by omega),Bool.false_and])
  clear hA hl hk hsp hw1 hg1 b0 ha1 hx1 hn hR0 HLb
  go_enter Tryz.func9,Tryz.ntmps9
  go_wp2
  go_ret
  exact ⟨by rw[HR0.out];first|done|rfl,by rw[←HW1.out];exact HG1.out⟩
 by_cases hv2:1099511627776<v
 ·have HR0:Hid (R0=false):=hid (by rw[hR0,decide_eq_false (by omega),Bool.false_and])
  clear hA hl hk hsp hw1 hg1 b0 ha1 hx1 hn hR0 HLb
  go_enter Tryz.func9,Tryz.ntmps9
  go_wp2
  go_ret
  exact ⟨by rw[HR0.out];first|done|rfl,by rw[←HW1.out];exact HG1.out⟩
 rw[decide_eq_true (by omega),Bool.true_and] at hR0
 cases hlb:Pt.label (strL sp) with
 |false =>
  rw[hlb] at HLb
  have HR0:Hid (R0=false):=hid (by rw[hR0,hlb,Bool.false_and])
  clear hA hl hk hsp hw1 hg1 b0 ha1 hx1 hn hR0 hlb
  go_enter Tryz.func9,Tryz.ntmps9
  go_wp2_with (go_at_call 30;refine (HLb.out _).mono ?_;rintro e w2 ⟨rfl,rfl⟩)
  go_ret
  exact ⟨by rw[HR0.out];first|done|rfl,by rw[←HW1.out];exact HG1.out⟩
 |true =>
  rw[hlb] at HLb
  rw[hlb,Bool.true_and] at hR0
  by_cases h0:n=0
  ·subst h0
   have HR0:Hid (R0=false):=hid (by rw[hR0,decide_eq_false (by omega),Bool.false_and])
   clear hA hl hk hsp hw1 hg1 b0 ha1 hx1 hn hR0 hlb
   go_enter Tryz.func9,Tryz.ntmps9
   go_wp2_with (go_at_call 30;refine (HLb.out _).mono ?_;rintro e w2 ⟨rfl,rfl⟩)
   go_ret
   exact ⟨by rw[HR0.out];first|done|rfl,by rw[←HW1.out];exact HG1.out⟩
  have hn0:¬ (n:Int)=0:=by omega
  by_cases h8:8<n
  ·have h8':(8:Int)<(n:Int):=by omega
   have HR0:Hid (R0=false):=hid (by rw[hR0,decide_eq_false (by omega),Bool.false_and])
   clear hA hl hk hsp hw1 hg1 b0 ha1 hx1 hn hR0 hlb
   go_enter Tryz.func9,Tryz.ntmps9
   go_wp2_with (go_at_call 30;refine (HLb.out _).mono ?_;rintro e w2 ⟨rfl,rfl⟩)
   go_ret
   exact ⟨by rw[HR0.out];first|done|rfl,by rw[←HW1.out];exact HG1.out⟩
  have h8':¬ (8:Int)<(n:Int):=by omega
  have hnb:((n:Int)==0)=false:=by rw[beq_eq_false_iff_ne];exact hn0
  have h8d:decide ((8:Int)<(n:Int))=false:=decide_eq_false h8'
  rw[decide_eq_true (by omega),Bool.true_and] at hR0
  have HX1:=hid (Ans.cells_at ha1 hx1)
  have HA1:Hid (0<n→a1=some ⟨g1,s1,none⟩):=hid (fun h=>(ha1 (by omega)).1)
  have HKs:Hid (∀ i,i<n→(l.getD i an0).k.size≤1000):=hid (fun i hi=>hk _ (by rw[List.getD_eq_getElem?_getD,List.getElem?_eq_getElem (by omega)];exact List.getElem_mem _))
  have HSt:Hid (∀ j,j<n→docA (l.take j) (l.drop j)=(okAt (l.take j) (l.getD j an0)&&docA (l.take (j+1)) (l.drop (j+1)))):=hid (fun j hj=>docA_step (by omega))
  have HEnd:Hid (docA (l.take n) (l.drop n)=true):=hid (by rw[hn];exact docA_end l)
  have HAll:Hid (∀ j,j≤n→∀ P:An→Bool,(∀ i,i<j→P (l.getD i an0)=true)→(l.take j).all P=true):=hid (fun j hj P hp=>by
   rw[List.all_eq_true]
   intro b hb
   obtain ⟨i,hi,rfl⟩:=mem_take_at (by omega) hb
   exact hp i hi)
  have HAny:Hid (∀ j i,i<j→j≤n→∀ P:An→Bool,P (l.getD i an0)=false→(l.take j).all P=false):=hid (fun j i hi hj P hp=>by
   rw[List.all_eq_false]
   exact ⟨_,at_mem_take hi (by omega),by rw[hp];decide⟩)
  rw[←hn] at HX1
  obtain rfl:=HA1.out (by omega)
  have HD0:Hid (docA (l.take 0) (l.drop 0)=R0):=hid (by rw[docA_start,hR0])
  clear hA hl hk hsp hw1 hg1 b0 ha1 hx1 hn hR0 hlb HA1
  have hI:=ran_info
  go_enter Tryz.func9,Tryz.ntmps9
  go_wp2_with (go_at_call 30;refine (HLb.out _).mono ?_;rintro e w2 ⟨rfl,rfl⟩)
  rw[←HW1.out]
  go_loopw [35,3] (fun i _ wr=>∃ j:Nat,j≤n∧i=.int .i64 (j:Int)∧w1.grownBy wr none∧docA (l.take j) (l.drop j)=R0) (fun i _ _=>n-(intOf i).toNat)
  case atStart=>exact ⟨0,Nat.zero_le _,rfl,grown_refl _ _,HD0.out⟩
  case round =>
   obtain ⟨j,hj,rfl,hG,hD⟩:=hrel
   have HG:=hid hG
   have HD:=hid hD
   clear hG hD
   by_cases hjn:j<n
   ·obtain ⟨c0,c1',c2,c3⟩:=HX1.out wr HG.out j hjn
    have HKx:=hid (HKs.out j hjn)
    have HStj:=hid (HSt.out j hjn)
    have HAl:=hid (HAll.out j (by omega))
    have HAn:=hid (fun i hi=>HAny.out j i hi (by omega))
    obtain ⟨x,hx⟩:∃ x,x=l.getD j an0:=⟨_,rfl⟩
    rw[←hx] at c0 c1' c2 c3 HKx HStj
    have HOk:Hid (okAn x=(okKey x.k&&(decide (1≤x.g∧x.g≤1048576)&&decide (0≤x.f∧x.f≤x.t∧x.t≤253402300799)))):=hid rfl
    have HRf:Hid (okAn x=false→R0=false):=hid (fun h=>by rw[←HD.out,HStj.out];unfold okAt;rw[h];rfl)
    have HRt:Hid (okAn x=true→((l.take j).all (fun b=>decide (b.g<x.g)&&decide (b.k≠x.k))=false→R0=false)∧((l.take j).all (fun b=>decide (b.g<x.g)&&decide (b.k≠x.k))=true→docA (l.take (j+1)) (l.drop (j+1))=R0)):=hid (fun h=>⟨fun h2=>by rw[←HD.out,HStj.out];unfold okAt;rw[h,h2];rfl,fun h2=>by rw[←HD.out,HStj.out];unfold okAt;rw[h,h2];rfl⟩)
    have HID0:=hid (fun W=>refID_any x.k W HKx.out)
    obtain ⟨xg,hxg⟩:∃ xg,xg=x.g:=⟨_,rfl⟩
    obtain ⟨xk,hxk⟩:∃ xk,xk=x.k:=⟨_,rfl⟩
    obtain ⟨xf,hxf⟩:∃ xf,xf=x.f:=⟨_,rfl⟩
    obtain ⟨xt,hxt⟩:∃ xt,xt=x.t:=⟨_,rfl⟩
    rw[←hxg] at c0 HOk HRt
    rw[←hxk] at c1' HOk HRt HID0
    rw[←hxf] at c2 HOk
    rw[←hxt] at c3 HOk
    have B5:=hid (alloc_at wr (.cells #[.int .i64 xg,.string xk,.int .i64 xf,.int .i64 xt] 43))
    have G5:=hid (grown_alloc HG.out (.cells #[.int .i64 xg,.string xk,.int .i64 xf,.int .i64 xt] 43))
    clear hx hxg hxk hxf hxt
    by_cases e1:xg<1
    ·have HR:=hid (HRf.out (by rw[HOk.out,decide_eq_false (show ¬ (1≤xg∧xg≤1048576) by omega)];simp))
     go_wp2
     go_ret
     exact ⟨by rw[HR.out];first|done|rfl,grown_trans HG1.out G5.out⟩
    by_cases e2:1048576<xg
    ·have HR:=hid (HRf.out (by rw[HOk.out,decide_eq_false (show ¬ (1≤xg∧xg≤1048576) by omega)];simp))
     go_wp2
     go_ret
     exact ⟨by rw[HR.out];first|done|rfl,grown_trans HG1.out G5.out⟩
    cases hK:okKey xk with
    |false =>
     have HID:Hid (∀ W,Calls Tryz.prog 31 #[.string xk] W fun e w'=>e=.returned (.bool false)∧W.grownBy w' none):=hid (fun W=>by rw[←hK];exact HID0.out W)
     have HR:=hid (HRf.out (by rw[HOk.out,hK];rfl))
     clear hK
     go_wp2_with (go_at_call 31;refine (HID.out _).mono ?_;rintro e w6 ⟨rfl,hg6⟩;have hb6:=hold_b3 B5.out hg6;have d2:=cell_blk hb6 2 rfl;have d3:=cell_blk hb6 3 rfl;have d0:=cell_blk hb6 0 rfl;have d1:=cell_blk hb6 1 rfl;have B6:=hid hb6;have G6:=hid (grown_trans G5.out hg6);clear hg6 hb6)
     go_ret
     exact ⟨by rw[HR.out];first|done|rfl,grown_trans HG1.out G6.out⟩
    |true =>
     have HID:Hid (∀ W,Calls Tryz.prog 31 #[.string xk] W fun e w'=>e=.returned (.bool true)∧W.grownBy w' none):=hid (fun W=>by rw[←hK];exact HID0.out W)
     rw[hK,decide_eq_true (show 1≤xg∧xg≤1048576 by omega),Bool.true_and,Bool.true_and] at HOk
     clear hK
     by_cases e3:xf<0
     ·have HR:=hid (HRf.out (by rw[HOk.out,decide_eq_false (by omega)]))
      go_wp2_with (go_at_call 31;refine (HID.out _).mono ?_;rintro e w6 ⟨rfl,hg6⟩;have hb6:=hold_b3 B5.out hg6;have d2:=cell_blk hb6 2 rfl;have d3:=cell_blk hb6 3 rfl;have d0:=cell_blk hb6 0 rfl;have d1:=cell_blk hb6 1 rfl;have B6:=hid hb6;have G6:=hid (grown_trans G5.out hg6);clear hg6 hb6)
      go_ret
      exact ⟨by rw[HR.out];first|done|rfl,grown_trans HG1.out G6.out⟩
     by_cases e4:xt<xf
     ·have HR:=hid (HRf.out (by rw[HOk.out,decide_eq_false (by omega)]))
      go_wp2_with (go_at_call 31;refine (HID.out _).mono ?_;rintro e w6 ⟨rfl,hg6⟩;have hb6:=hold_b3 B5.out hg6;have d2:=cell_blk hb6 2 rfl;have d3:=cell_blk hb6 3 rfl;have d0:=cell_blk hb6 0 rfl;have d1:=cell_blk hb6 1 rfl;have B6:=hid hb6;have G6:=hid (grown_trans G5.out hg6);clear hg6 hb6)
      go_ret
      exact ⟨by rw[HR.out];first|done|rfl,grown_trans HG1.out G6.out⟩
     by_cases e5:253402300799<xt
     ·have HR:=hid (HRf.out (by rw[HOk.out,decide_eq_false (by omega)]))
      go_wp2_with (go_at_call 31;refine (HID.out _).mono ?_;rintro e w6 ⟨rfl,hg6⟩;have hb6:=hold_b3 B5.out hg6;have d2:=cell_blk hb6 2 rfl;have d3:=cell_blk hb6 3 rfl;have d0:=cell_blk hb6 0 rfl;have d1:=cell_blk hb6 1 rfl;have B6:=hid hb6;have G6:=hid (grown_trans G5.out hg6);clear hg6 hb6)
      go_ret
      exact ⟨by rw[HR.out];first|done|rfl,grown_trans HG1.out G6.out⟩
     obtain ⟨HRn,HRy⟩:=HRt.out (by rw[HOk.out,decide_eq_true (by omega)])
     have HRn:=hid HRn
     have HRy:=hid HRy
     go_wp2_with (go_at_call 31;refine (HID.out _).mono ?_;rintro e w6 ⟨rfl,hg6⟩;have hb6:=hold_b3 B5.out hg6;have d2:=cell_blk hb6 2 rfl;have d3:=cell_blk hb6 3 rfl;have d0:=cell_blk hb6 0 rfl;have d1:=cell_blk hb6 1 rfl;have B6:=hid hb6;have G6:=hid (grown_trans G5.out hg6);clear hg6 hb6)
     go_loopw [5] (fun jv wr2=>∃ i:Nat,i≤j∧jv=.int .i64 (i:Int)∧w6.grownBy wr2 none∧∀ p,p<i→((l.getD p an0).g<xg∧(l.getD p an0).k≠xk)) (fun jv _=>j-(intOf jv).toNat)
     case atStart=>exact ⟨0,Nat.zero_le _,rfl,grown_refl _ _,fun p hp=>absurd hp (Nat.not_lt_zero _)⟩
     case round =>
      obtain ⟨i,hi,rfl,hgi,hpi⟩:=hrel
      have HGi:=hid (grown_trans G6.out hgi)
      have HGi0:=hid hgi
      have HPi:=hid hpi
      have hb7:=hold_b3 B6.out hgi
      have f0:=cell_blk hb7 0 rfl
      have f1:=cell_blk hb7 1 rfl
      have hb8:=hold_b3 HB0.out HGi.out
      have f2:=cell_blk hb8 2 rfl
      clear hgi hpi hb7 hb8 d0 d1 d2 d3 c0 c1' c2 c3
      by_cases hij:i<j
      ·obtain ⟨y0,y1,y2,y3⟩:=HX1.out _ HGi.out i (by omega)
       have hin:(i:Int)<(n:Int):=by omega
       have HNo:Hid (¬ ((l.getD i an0).g<xg∧(l.getD i an0).k≠xk)→R0=false):=hid (fun h=>HRn.out (HAn.out i hij _ (by
        rw[Bool.and_eq_false_iff,decide_eq_false_iff_not,decide_eq_false_iff_not]
        by_cases h1:(l.getD i an0).g<xg
        ·exact .inr (fun h2=>h ⟨h1,h2⟩)
        ·exact .inl h1)))
       have HYs:Hid ((l.getD i an0).g<xg∧(l.getD i an0).k≠xk→∀ p,p<i+1→((l.getD p an0).g<xg∧(l.getD p an0).k≠xk)):=hid (fun h p hp=>by
        rcases Nat.lt_or_ge p i with h1|h1
        ·exact HPi.out p h1
        ·obtain rfl:p=i:=by omega
         exact h)
       generalize (l.getD i an0).g=yg at *
       generalize (l.getD i an0).k=yk at *
       generalize (l.getD i an0).f=yf at *
       generalize (l.getD i an0).t=yt at *
       by_cases hge:xg≤yg
       ·have HR:=hid (HNo.out (fun h=>by have:=h.1;omega))
        go_wp2
        go_quiet (fail)
        go_wp2
        go_ret
        exact ⟨by rw[HR.out];first|done|rfl,grown_drewN (grown_trans HG1.out HGi.out) _⟩
       ·by_cases hke:yk=xk
        ·have HR:=hid (HNo.out (fun h=>h.2 hke))
         subst hke
         go_wp2
         go_quiet (fail)
         go_wp2
         go_ret
         exact ⟨by rw[HR.out];first|done|rfl,grown_drewN (grown_trans HG1.out HGi.out) _⟩
        ·have hk2:¬ yk.toList=xk.toList:=fun h=>hke (strT_inj h)
         have hkb:(yk.toList==xk.toList)=false:=by rw[beq_str,decide_eq_false hke]
         have hgd:decide (xg≤yg)=false:=decide_eq_false hge
         have hgd2:decide (yg ≥ xg)=false:=decide_eq_false hge
         have HN2:=hid (HYs.out ⟨by omega,hke⟩)
         go_wp2
         go_quiet (fail)
         go_wp2
         go_roundw
         case rel=>exact ⟨i+1,by omega,by go_num,grown_drewN HGi0.out _,HN2.out⟩
         case measure=>simp[intOf] <;> omega
      ·obtain rfl:i=j:=by omega
       have HDn:=hid (HRy.out (HAl.out _ (fun p hp=>by
        obtain ⟨h1,h2⟩:=HPi.out p hp
        rw[Bool.and_eq_true,decide_eq_true_eq,decide_eq_true_eq]
        exact ⟨h1,h2⟩)))
       go_wp2
       go_roundw
       case rel=>exact ⟨i+1,by omega,by go_num,HGi.out,HDn.out⟩
       case measure=>simp[intOf] <;> omega
   ·obtain rfl:j=n:=by omega
    have HR:Hid (R0=true):=hid (by rw[←HD.out,HEnd.out])
    go_wp2
    go_ret
    exact ⟨by rw[HR.out];first|done|rfl,grown_trans HG1.out HG.out⟩
end Go.Proofs.YtjjbkpjjmbfdhaaGreatDoor
