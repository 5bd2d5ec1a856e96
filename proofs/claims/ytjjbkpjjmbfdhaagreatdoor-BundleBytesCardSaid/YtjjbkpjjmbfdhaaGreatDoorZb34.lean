import Derived.Test.YtjjbkpjjmbfdhaaGreatDoorZb01
import Derived.Test.YtjjbkpjjmbfdhaaGreatDoorZb13
import Derived.Test.YtjjbkpjjmbfdhaaGreatDoorZb21
import Derived.Test.YtjjbkpjjmbfdhaaGreatDoorZb23
import Derived.Test.YtjjbkpjjmbfdhaaGreatDoorZb24
import Derived.Laws.OwnMore
set_option linter.unusedVariables false
set_option linter.unusedSimpArgs false
set_option maxRecDepth 100000
set_option maxHeartbeats 2000000
namespace Go.Proofs.YtjjbkpjjmbfdhaaGreatDoor
open Lib (hid)
open Go.RowKit
theorem wpList_app1m {P:Program} {w:World} {ops:Array Oper} {rest:List Oper} {o:Oper} {a:Act} {Q:Exit→Act→World→Prop} (hgd:o.guard=none) (s x:Operand) (t:TypeId)
  (ho:o.op=.call { callee:=.builtin .append,args:=#[s,x],argTypes:=#[t,t] })
  (base:Nat) (e:TypeId) (z:Value) (bytes:Nat) (ht:P.underlying t=some (.slice e)) (hi:(P.info? e).map (fun i=>(i.zero,i.size,i.bytes))=some (some z,1,bytes)) (hzs:z.cells.size=1) (hby:bytes≤64)
  (v:Value) (n:Nat) (xs:List Value) (hs:a.eval s=v) (hown:w.ownsRow base e 1 v n xs)
  (g k:Nat) (cs:Array Value) (t':TypeId) (fr:Nat×Nat) (hx:a.eval x=.slice (some ⟨g,0,none⟩) 1 1) (hg:w.heap[g]?=some (.cells cs t' fr)) (hc:cs=#[.int .u8 (k:Nat)]) (hk:k<256)
  (h63:n+1≤1099511627776) (hbase:base≤w.heap.size)
  (h:∀ v' w',w'.ownsRow base e 1 v' (n+1) (xs++cellsL [k])→w.grownBy w' v.ownBlock→(v'.ownBlock=v.ownBlock∨v'.ownBlock=some w.heap.size)→wpList P ops Q rest (a.put o.dst v') w'):wpList P ops Q (o :: rest) a w:=by
 subst hc
 exact wpList_appB2 hgd s x t ho base e z bytes ht hi hzs hby v n xs hs hown _ [k] hx (Bytes.lit (l:=[k]) hg (by simpa using hk)) (Whole0.some _ _ _) h63 hbase h
theorem unhex_odd:∀ (l:List Nat) (a:Nat),l.length%2=0→unhex (l++[a])=unhex l
 |[],a,_=>rfl
 |[_],_,h=>by simp at h
 |x :: y :: r,a,h=>by
  have h':r.length%2=0:=by simp only[List.length_cons] at h;omega
  rw[List.cons_append,List.cons_append,unhex,unhex_odd r a h',unhex]
def st (L:List Nat) (k:Nat):List Nat:=unhex (L.take k)++(if k%2=1 then [16*hv (L.getD (k-1) 0)] else [])
theorem st_even (L:List Nat) (k:Nat) (hk:k<L.length) (h:k%2=0):st L (k+1)=st L k++[16*hv (L.getD k 0)]:=by
 unfold st
 rw[if_pos (by omega),if_neg (by omega),take_one L k hk,unhex_odd _ _ (by rw[List.length_take];omega),List.append_nil,Nat.add_sub_cancel]
theorem st_len (L:List Nat) (k:Nat) (hk:k≤L.length):(st L k).length=(k+1)/2:=by
 unfold st
 rw[List.length_append,unhex_len,List.length_take,Nat.min_eq_left hk]
 split <;> simp <;> omega
theorem st_odd1 (L:List Nat) (k:Nat) (hk:k<L.length) (h:k%2=1):st L k=unhex (L.take (k-1))++[16*hv (L.getD (k-1) 0)]:=by
 unfold st
 rw[if_pos h]
 have e:L.take k=L.take (k-1)++[L.getD (k-1) 0]:=by
  have:=take_one L (k-1) (by omega)
  rwa [show k-1+1=k by omega] at this
 rw[e,unhex_odd _ _ (by rw[List.length_take];omega)]
theorem st_odd2 (L:List Nat) (k:Nat) (hk:k<L.length) (h:k%2=1):st L (k+1)=unhex (L.take (k-1))++[16*hv (L.getD (k-1) 0)+hv (L.getD k 0)]:=by
 unfold st
 rw[if_neg (by omega),List.append_nil]
 have e:L.take (k+1)=L.take (k-1)++[L.getD (k-1) 0,L.getD k 0]:=by
  have:=take_two L (k-1) (by omega)
  rwa [show k-1+2=k+1 by omega,show k-1+1=k by omega] at this
 rw[e,unhex_snoc _ _ _ (by rw[List.length_take];omega)]
def RbPost (w':World) (l:List Nat) (e:Ending):Prop :=
 (hexOk l=false∧e=.returned (.tuple #[.slice none 0 0,.bool false])) ∨
 (hexOk l=true∧∃ a m c,e=.returned (.tuple #[.slice a m c,.bool (decide (l.length=32))])∧(l.length=32→m=16∧Bytes w' (.slice a m c) (unhex l)))
theorem FrW.put {w w':World} {g m c:Nat} {a b:List Nat} {x:Nat} (h:FrW w w' (.slice (some ⟨g,0,none⟩) m c) (a++[x]++b)) (hg:w.heap.size≤g) (y:Nat):FrW w (w'.setCell ⟨g,a.length,none⟩ (.int .u8 (y:Int))) (.slice (some ⟨g,0,none⟩) m c) (a++[y]++b):=by
 have hm:m=(a++[x]++b).length:=by
  rcases h.own.2 with ⟨e,_⟩|⟨_,_,_,e,_⟩
  ·cases e
  ·cases e;rfl
 subst hm
 obtain ⟨h1,_⟩:=h.own.stored a.length (.int .u8 (y:Int))
 have e:(cellsL (a++[x]++b)).set a.length (.int .u8 (y:Int))=cellsL (a++[y]++b):=by simp[cellsL]
 have hl:(a++[x]++b).length=(a++[y]++b).length:=by simp
 refine ⟨grown_set h.grown (.inl hg) _,?_⟩
 rw[e] at h1
 rw[←hl]
 exact h1
theorem refBytes_any (s:ByteArray) (w:World) (hs:s.size≤1000000) :
  Calls Tryz.prog 73 #[.string s] w fun e w'=>RbPost w' (strL s) e∧w.grownBy w' none:=by
 obtain ⟨n,hn⟩:∃ n,n=s.size:=⟨_,rfl⟩
 have HN:=hid hn
 have hnn:n≤1000000:=by omega
 obtain ⟨L,hL⟩:∃ L,L=strL s:=⟨_,rfl⟩
 have HLn:Hid (L.length=n):=hid (by rw[hL,strL_len,hn])
 have HIx:Hid (∀ j:Nat,j<n→∀ W,(Instr.index 9 (.string s) (.int .i64 (j:Int))).run Tryz.prog W=.ok (.int .u8 (L.getD j 0:Nat)) W):=hid (fun j hj W=>by
  have hjs:j<s.size:=by have:=HN.out;omega
  rw[run_index_string W _ s .i64 j Tryz.underlying9,dif_pos ⟨by omega,by omega⟩,hL,←strL_getD s j hjs]
  rfl)
 have HLt:Hid (∀ j:Nat,L.getD j 0<256):=hid (fun j=>getD_lt' (by rw[hL];exact strL_lt s) j)
 rw[←hL]
 have F0:Hid (FrW w (w.alloc (.cells #[] 5)) (.slice (some ⟨w.heap.size,0,none⟩) 0 0) []):=hid ⟨World.grownBy_alloc _ _ _,ownsRow_lit (alloc_at w _) (Nat.le_refl _) (by simp)⟩
 have hsz:((s.size:Nat):Int)=(n:Int):=by rw[hn]
 clear hn hs hL
 go_enter Tryz.func73,Tryz.ntmps73
 go_wp2
 go_loopw [4,5] (fun x i wr=>∃ k:Nat,k≤n∧i=.int .i64 k∧hexOk (L.take k)=true∧FrW w wr x (st L k)) (fun _ i _=>n-(intOf i).toNat)
 case atStart=>exact ⟨0,Nat.zero_le _,rfl,rfl,F0.out⟩
 case round =>
  obtain ⟨k,hk,rfl,hok,hF⟩:=hrel
  have HOk:=hid hok
  have HF:=hid hF
  obtain ⟨xa,xg,xc,rfl,hxc,hxm,hxp,hxcell⟩:=ownsRow_form hF.own
  have hstl:=st_len L k (by rw[HLn.out];exact hk)
  clear hok hF
  by_cases hkn:k<n
  ·obtain ⟨c,hc⟩:∃ c,c=L.getD k 0:=⟨_,rfl⟩
   have hi:=HIx.out k hkn
   have hc256:c<256:=by rw[hc];exact HLt.out k
   have HT:=hid (hexOk_take L k (by rw[HLn.out];exact hkn))
   rw[←hc] at hi HT
   have hp2:k%2=0∨k%2=1:=by omega
   have HEv:Hid (k%2=0→st L (k+1)=st L k++[16*hv c]):=hid (fun h=>by rw[hc];exact st_even L k (by rw[HLn.out];exact hkn) h)
   have HOd:Hid (k%2=1→∃ a x,st L k=a++[x]++[]∧a.length=k/2∧x<256∧x%16=0∧st L (k+1)=a++[x+hv c]++[]):=hid (fun h=>by
    refine ⟨unhex (L.take (k-1)),16*hv (L.getD (k-1) 0),by rw[st_odd1 L k (by rw[HLn.out];exact hkn) h,List.append_nil],?_,?_,by omega,by rw[hc,st_odd2 L k (by rw[HLn.out];exact hkn) h,List.append_nil]⟩
    ·rw[unhex_len,List.length_take,HLn.out];omega
    ·have hok:=HOk.out
     have e:L.take k=L.take (k-1+1):=by rw[show k-1+1=k by omega]
     rw[e,hexOk_take L (k-1) (by rw[HLn.out];omega),Bool.and_eq_true,decide_eq_true_eq] at hok
     omega)
   clear hc hstl hxc hxm hxp hxcell
   by_cases hdig:48≤c∧c≤57
   ·obtain ⟨h1,h2⟩:=hdig
    have t1:decide ((48:Int)≤(c:Int))=true:=decide_eq_true (by omega)
    have t2:decide ((c:Int)≤57)=true:=decide_eq_true (by omega)
    obtain ⟨hQ,hhv⟩:∃ h,h=hv c:=⟨_,rfl⟩
    have hq16:hQ<16:=by rw[hhv];unfold hv;rw[if_pos ⟨h1,h2⟩];omega
    have eh:(c:Int)-48=(hQ:Int):=by rw[hhv];unfold hv;rw[if_pos ⟨h1,h2⟩];omega
    have HOk2:Hid (hexOk (L.take (k+1))=true):=hid (by rw[HT.out,HOk.out,←hhv];simp[hq16])
    clear h1 h2
    rcases hp2 with hp|hp
    ·have HSt:=hid (HEv.out hp)
     have ep:(k:Int)%2=0:=by omega
     have hm:(16*hQ:Nat)<256:=by omega
     have hstm:(st L k).length≤1000000:=by rw[st_len L k (by rw[HLn.out];omega)];omega
     have HHv:=hid (show hv c=hQ from hhv.symm)
     clear HOd hp hhv
     go_wp2_with (at_builtin;refine wpList_app1m (by rfl) (.tmp 40) (.tmp 44) 27 (by rfl) w.heap.size 5 (.int .u8 0) 1 Tryz.underlying27 (by kernel_rfl) rfl (by decide) _ _ _ (by rfl) (HF.out.own.alloc _) _ (16*hQ) _ _ _ (by rfl) (alloc_at _ _) (by simp) (by omega) (by omega) (by have:=HF.out.le;rw[alloc_size];omega) ?_;intro v2 w2 ho2 hg2 hs2;have F2:=hid ((HF.out.alloc _).step (l':=st L k++[16*hQ]) ho2 hg2 (cellsL_append _ _).symm);clear ho2 hg2 hs2)
     go_roundw
     case rel=>exact ⟨k+1,by omega,by go_num,HOk2.out,by rw[HSt.out,HHv.out];exact F2.out⟩
     case measure=>simp[intOf];omega
    ·obtain ⟨a,x,ha1,ha2,hx,hx16,ha3⟩:=HOd.out hp
     have ep:(k:Int)%2=1:=by omega
     have HF':=HF.out
     rw[ha1] at HF'
     have hal:(a++[x]++[]).length=k/2+1:=by simp[ha2]
     obtain ⟨xa2,xg,xc2,he,hxc,hxm,hxp,hxcell⟩:=ownsRow_form HF'.own
     rw[ha1]
     cases he
     obtain ⟨rfl,hxg,hxgl⟩:=hxp (by rw[hal];omega)
     have hcx:=hxcell (k/2) (by rw[hal];omega)
     rw[cellsL_at _ _ (by rw[hal];omega)] at hcx
     have hgx:(a++[x]++[]).getD (k/2) 0=x:=by rw[←ha2];simp
     rw[hgx] at hcx
     have hfx:=HF'.own.frozenAt (k/2)
     have hput:=HF'.put hxg (x+hQ)
     rw[ha2] at hput
     have HPut:=hid hput
     have HA3:=hid ha3
     have HHv:=hid (show hv c=hQ from hhv.symm)
     have hk2:(k:Int)/2=((k/2:Nat):Int):=by omega
     have hkl:k/2<(a++[x]++[]).length:=by rw[hal];omega
     have hxq:x+hQ<256:=by omega
     have hle:(a++[x]++[]).length=(a++[x+hQ]++[]).length:=by simp
     have HLe:=hid hle
     generalize (a++[x]++[]).length=m at *
     clear HEv hp hhv ha1 ha2 ha3 hal hxc hxm hxp hxcell hgx hput HF' hle hx16
     generalize k/2=k2 at *
     go_wp2
     go_roundw
     case rel =>
      refine ⟨k+1,by omega,by go_num,HOk2.out,?_⟩
      have hp:=HPut.out
      rw[show ((x+hQ:Nat):Int)=(x:Int)+(hQ:Int) by omega] at hp
      rw[HA3.out,HHv.out]
      exact hp
     case measure=>simp[intOf];omega
   ·by_cases hlet:97≤c∧c≤102
    ·obtain ⟨h1,h2⟩:=hlet
     have t1:decide ((48:Int)≤(c:Int))=true:=decide_eq_true (by omega)
     have t2:decide ((c:Int)≤57)=false:=decide_eq_false (by omega)
     have t3:decide ((97:Int)≤(c:Int))=true:=decide_eq_true (by omega)
     have t4:decide ((c:Int)≤102)=true:=decide_eq_true (by omega)
     obtain ⟨hQ,hhv⟩:∃ h,h=hv c:=⟨_,rfl⟩
     have hq16:hQ<16:=by rw[hhv];unfold hv;rw[if_neg hdig,if_pos ⟨h1,h2⟩];omega
     obtain ⟨q,hq⟩:∃ q,q=c-97:=⟨_,rfl⟩
     have hq6:q<6:=by omega
     have eh:(c:Int)-97=(q:Int):=by omega
     have eh2:(q:Int)+10=(hQ:Int):=by rw[hhv];unfold hv;rw[if_neg hdig,if_pos ⟨h1,h2⟩];omega
     clear hq
     have HOk2:Hid (hexOk (L.take (k+1))=true):=hid (by rw[HT.out,HOk.out,←hhv];simp[hq16])
     clear h1 h2 hdig
     rcases hp2 with hp|hp
     ·have HSt:=hid (HEv.out hp)
      have ep:(k:Int)%2=0:=by omega
      have hm:(16*hQ:Nat)<256:=by omega
      have hstm:(st L k).length≤1000000:=by rw[st_len L k (by rw[HLn.out];omega)];omega
      have HHv:=hid (show hv c=hQ from hhv.symm)
      clear HOd hp hhv
      go_wp2_with (at_builtin;refine wpList_app1m (by rfl) (.tmp 40) (.tmp 44) 27 (by rfl) w.heap.size 5 (.int .u8 0) 1 Tryz.underlying27 (by kernel_rfl) rfl (by decide) _ _ _ (by rfl) (HF.out.own.alloc _) _ (16*hQ) _ _ _ (by rfl) (alloc_at _ _) (by simp) (by omega) (by omega) (by have:=HF.out.le;rw[alloc_size];omega) ?_;intro v2 w2 ho2 hg2 hs2;have F2:=hid ((HF.out.alloc _).step (l':=st L k++[16*hQ]) ho2 hg2 (cellsL_append _ _).symm);clear ho2 hg2 hs2)
      go_roundw
      case rel=>exact ⟨k+1,by omega,by go_num,HOk2.out,by rw[HSt.out,HHv.out];exact F2.out⟩
      case measure=>simp[intOf];omega
     ·obtain ⟨a,x,ha1,ha2,hx,hx16,ha3⟩:=HOd.out hp
      have ep:(k:Int)%2=1:=by omega
      have HF':=HF.out
      rw[ha1] at HF'
      have hal:(a++[x]++[]).length=k/2+1:=by simp[ha2]
      obtain ⟨xa2,xg,xc2,he,hxc,hxm,hxp,hxcell⟩:=ownsRow_form HF'.own
      rw[ha1]
      cases he
      obtain ⟨rfl,hxg,hxgl⟩:=hxp (by rw[hal];omega)
      have hcx:=hxcell (k/2) (by rw[hal];omega)
      rw[cellsL_at _ _ (by rw[hal];omega)] at hcx
      have hgx:(a++[x]++[]).getD (k/2) 0=x:=by rw[←ha2];simp
      rw[hgx] at hcx
      have hfx:=HF'.own.frozenAt (k/2)
      have hput:=HF'.put hxg (x+hQ)
      rw[ha2] at hput
      have HPut:=hid hput
      have HA3:=hid ha3
      have HHv:=hid (show hv c=hQ from hhv.symm)
      have hk2:(k:Int)/2=((k/2:Nat):Int):=by omega
      have hkl:k/2<(a++[x]++[]).length:=by rw[hal];omega
      have hxq:x+hQ<256:=by omega
      have hle:(a++[x]++[]).length=(a++[x+hQ]++[]).length:=by simp
      have HLe:=hid hle
      generalize (a++[x]++[]).length=m at *
      clear HEv hp hhv ha1 ha2 ha3 hal hxc hxm hxp hxcell hgx hput HF' hle hx16
      generalize k/2=k2 at *
      go_wp2
      go_roundw
      case rel =>
       refine ⟨k+1,by omega,by go_num,HOk2.out,?_⟩
       have hp:=HPut.out
       rw[show ((x+hQ:Nat):Int)=(x:Int)+(hQ:Int) by omega] at hp
       rw[HA3.out,HHv.out]
       exact hp
      case measure=>simp[intOf];omega
    ·have HBad:Hid (hexOk L=false):=hid (hexOk_pre (k:=k+1) (by rw[HT.out];unfold hv;rw[if_neg hdig,if_neg hlet];simp))
     have HG:=hid HF.out.grown
     clear HEv HOd HT
     by_cases h1:c<48
     ·have t1:decide ((48:Int)≤(c:Int))=false:=decide_eq_false (by omega)
      have t3:decide ((97:Int)≤(c:Int))=false:=decide_eq_false (by omega)
      clear h1 hdig hlet hp2
      go_wp2
      go_ret2
      exact ⟨.inl ⟨HBad.out,rfl⟩,HG.out⟩
     ·have t1:decide ((48:Int)≤(c:Int))=true:=decide_eq_true (by omega)
      have t2:decide ((c:Int)≤57)=false:=decide_eq_false (by omega)
      by_cases h2:c<97
      ·have t3:decide ((97:Int)≤(c:Int))=false:=decide_eq_false (by omega)
       clear h1 h2 hdig hlet hp2
       go_wp2
       go_ret2
       exact ⟨.inl ⟨HBad.out,rfl⟩,HG.out⟩
      ·have t3:decide ((97:Int)≤(c:Int))=true:=decide_eq_true (by omega)
       have t4:decide ((c:Int)≤102)=false:=decide_eq_false (by omega)
       clear h1 h2 hdig hlet hp2
       go_wp2
       go_ret2
       exact ⟨.inl ⟨HBad.out,rfl⟩,HG.out⟩
  ·obtain rfl:k=n:=by omega
   have htk:L.take k=L:=List.take_of_length_le (by rw[HLn.out];exact Nat.le_refl _)
   have hok:=HOk.out
   rw[htk] at hok
   have HOk2:=hid hok
   have HFin:Hid (L.length=32→(st L k).length=16∧Bytes wr (.slice xa (st L k).length xc) (unhex L)):=hid (fun h32=>by
    have hk32:k=32:=by rw[←HLn.out];exact h32
    have e:st L k=unhex L:=by unfold st;rw[htk,if_neg (by omega),List.append_nil]
    refine ⟨by rw[hstl];omega,?_⟩
    have:=Bytes.own HF.out.own (by rw[e];exact unhex_lt L hok)
    rw[e] at this ⊢
    exact this)
   have HG:=hid HF.out.grown
   have hdec:decide (L.length=32)=((k:Int)==32):=by rw[HLn.out,Bool.eq_iff_iff];simp;omega
   have HDe:=hid hdec
   generalize (st L k).length=m at *
   clear hxcell hxp htk hok hdec hstl
   go_wp2
   go_ret2
   exact ⟨.inr ⟨HOk2.out,_,_,_,by rw[HDe.out];rfl,HFin.out⟩,HG.out⟩
end Go.Proofs.YtjjbkpjjmbfdhaaGreatDoor
namespace Go.Proofs.YtjjbkpjjmbfdhaaGreatDoor
open Lib (hid)
namespace Bu
def kb (k:ByteArray):List Nat:=unhex (strL k)
def wOpen (t:Int):De.Val:={ De.none0 with kind:=1,n:=t }
def wClose:De.Val:={ De.none0 with kind:=2 }
def wInt (n:Int):De.Val:={ De.none0 with kind:=3,n:=n }
def wOct (b:List Nat):De.Val:={ De.none0 with kind:=6,b:=b }
def wMom (n:Int):De.Val:={ De.none0 with kind:=9,n:=n }
def wTxt (m:Int) (s:ByteArray):De.Val:={ De.none0 with kind:=7,n:=m,t:=strL s }
def putAn (s:De.St) (x:An):De.St:=De.step (De.step (De.step (De.step (De.step (De.step s (wOpen 48)) (wInt x.g)) (wOct (kb x.k))) (wMom x.f)) (wMom x.t)) wClose
end Bu
namespace Bu
def stA (s:De.St) (l:List An) (j:Nat):De.St:=(l.take j).foldl putAn (De.step s (wOpen 49))
def putAns (s:De.St) (l:List An):De.St:=De.step (l.foldl putAn (De.step s (wOpen 49))) wClose
def putBd (b:Bd):De.St:=De.step (putAns (De.step (De.step (De.step De.St.zero (wOpen 48)) (wInt b.v)) (wTxt 24 b.sp)) b.l) wClose
theorem stA_succ {s:De.St} {l:List An} {j:Nat} (h:j<l.length):stA s l (j+1)=putAn (stA s l j) (l.getD j an0):=by
 unfold stA
 rw[take_snoc h,List.foldl_append]
 rfl
theorem okL_at {l:List An} (h:okL l=true):∀ i,i<l.length→okAn (l.getD i an0)=true:=by
 intro i hi
 unfold okL at h
 rw[Bool.and_eq_true] at h
 have:=docA_upok l.length l 0 (by omega) (by omega) (by rw[docA_start];exact h.2) i (Nat.zero_le _) hi
 unfold okAt at this
 rw[Bool.and_eq_true] at this
 exact this.1
theorem okAn_parts {a:An} (h:okAn a=true):okKey a.k=true∧De.I64 a.g∧De.I64 a.f∧De.I64 a.t:=by
 unfold okAn at h
 simp only[Bool.and_eq_true,decide_eq_true_eq] at h
 obtain ⟨h1,⟨h2,h3⟩,h4,h5,h6⟩:=h
 exact ⟨h1,⟨by omega,by omega⟩,⟨by omega,by omega⟩,⟨by omega,by omega⟩⟩
theorem key_bytes {k:ByteArray} (h:okKey k=true):(kb k).length=16∧∀ y∈kb k,y<256:=by
 have hkk:(strL k).length=32∧hexOk (strL k)=true:=by
  have:(decide ((strL k).length=32)&&hexOk (strL k))=true:=h
  rw[Bool.and_eq_true,decide_eq_true_eq] at this
  exact this
 refine ⟨?_,unhex_lt _ hkk.2⟩
 have:=unhex_len (strL k)
 rw[hkk.1] at this
 exact this
end Bu
namespace Bu
open De
def vAn (x:An):List De.Val:=[vInt x.g,vOct (kb x.k),vMom x.f,vMom x.t]
def EA (x:An):List Nat:=Tl.elem 48 ((vAn x).map De.elemOf).flatten
theorem okAn_all {x:An} (h:okAn x=true):okKey x.k=true∧(1≤x.g∧x.g≤1048576)∧(0≤x.f∧x.f≤253402300799)∧(0≤x.t∧x.t≤253402300799):=by
 unfold okAn at h
 simp only[Bool.and_eq_true,decide_eq_true_eq] at h
 obtain ⟨h1,h2,h4,h5,h6⟩:=h
 exact ⟨h1,h2,⟨h4,by omega⟩,⟨by omega,h6⟩⟩
theorem vAn_ok {x:An} (h:okAn x=true):∀ v∈vAn x,(Fit v∧has v=true)∧Byt v:=by
 obtain ⟨h1,h2,h3,h4⟩:=okAn_all h
 obtain ⟨k1,k2⟩:=key_bytes h1
 intro v hv
 simp only[vAn,List.mem_cons,List.not_mem_nil,or_false] at hv
 rcases hv with rfl|rfl|rfl|rfl
 ·exact ⟨fit_int ⟨by omega,by omega⟩,byt_n _ _⟩
 ·exact ⟨fit_oct (by omega),⟨k2,by simp[vOct,none0]⟩⟩
 ·exact ⟨fit_mom h3,byt_n _ _⟩
 ·exact ⟨fit_mom h4,byt_n _ _⟩
theorem len_int {n:Int}:(De.elemOf (vInt n)).length≤10:=by
 have:=Wh.body_len n
 rw[len_elem (v:=vInt n) (t:=2) (b:=Wh.body n) rfl (by omega)];omega
theorem len_mom {n:Int} (h:0≤n∧n≤253402300799):(De.elemOf (vMom n)).length=17:=by
 rw[len_elem (body_mom n h) (by rw[Cal.text_len];decide),Cal.text_len]
theorem len_an {x:An} (h:okAn x=true):((vAn x).map De.elemOf).flatten.length≤62:=by
 obtain ⟨h1,h2,h3,h4⟩:=okAn_all h
 obtain ⟨k1,k2⟩:=key_bytes h1
 have e1:=len_int (n:=x.g)
 have e2:=len_elem (v:=vOct (kb x.k)) (t:=4) (b:=kb x.k) rfl (by omega)
 have e3:=len_mom h3
 have e4:=len_mom h4
 simp only[vAn,List.map_cons,List.map_nil,List.flatten_cons,List.flatten_nil,List.length_append,List.length_nil]
 omega
theorem ea_len {x:An} (h:okAn x=true):(EA x).length≤64:=by
 have:=len_an h
 rw[EA,Tl.elem_len,Tl.more,if_pos (by omega)];omega
theorem ea_dp {x:An} (h:okAn x=true):Dp 2 (EA x):=by
 have:=len_an h
 refine dp_list (t:=48) (by decide) (Nat.le_refl 1) (fun y hy=>?_) (fun h=>absurd h (by decide)) (by omega)
 obtain ⟨v,hv,rfl⟩:=List.mem_map.1 hy
 obtain ⟨⟨h1,h2⟩,h3⟩:=vAn_ok h v hv
 exact dp_leaf h1 h3 h2
theorem putAn_ok {x:An} {t:Nat} {ys:List (List Nat)} {r:List (Nat×List (List Nat))} {dn:List (List Nat)} (h:okAn x=true) (hr:r.length+1<16):putAn ⟨0,(t,ys) :: r,dn⟩ x=⟨0,(t,ys++[EA x]) :: r,dn⟩:=by
 have hv:=vAn_ok h
 have hl:=len_an h
 have e1:De.step ⟨0,(t,ys) :: r,dn⟩ (wOpen 48)=⟨0,(48,[]) :: (t,ys) :: r,dn⟩:=step_opn (by decide) (by simpa using hr)
 have e2:(vAn x).foldl De.step ⟨0,(48,[]) :: (t,ys) :: r,dn⟩=⟨0,(48,(vAn x).map De.elemOf) :: (t,ys) :: r,dn⟩:=steps_open (vAn x) [] (fun v hx=>(hv v hx).1)
 have e3:putAn ⟨0,(t,ys) :: r,dn⟩ x=De.step ((vAn x).foldl De.step (De.step ⟨0,(t,ys) :: r,dn⟩ (wOpen 48))) wClose:=rfl
 rw[e3,e1,e2]
 exact step_cls (t:=48) (by rw[if_neg (by decide)];omega)
theorem putAn_all:∀ (l:List An) {t:Nat} (ys:List (List Nat)) {r:List (Nat×List (List Nat))} {dn:List (List Nat)},(∀ x∈l,okAn x=true)→r.length+1<16→l.foldl putAn ⟨0,(t,ys) :: r,dn⟩=⟨0,(t,ys++l.map EA) :: r,dn⟩
 |[],t,ys,r,dn,_,_=>by simp
 |x :: l,t,ys,r,dn,h,hr=>by
  rw[List.foldl_cons,putAn_ok (h x (by simp)) hr,putAn_all l _ (fun y hy=>h y (by simp[hy])) hr,List.map_cons,List.append_assoc]
  rfl
def SA (l:List An):List Nat:=Tl.elem 49 (Pt.sort (l.map EA)).flatten
def tx (b:Bd):De.Val:=vTxt 24 (strL b.sp)
def BB (b:Bd):List Nat:=Tl.elem 48 [De.elemOf (vInt b.v),De.elemOf (tx b),SA b.l].flatten
theorem right_all {b:Bd} (h:right b=true):(1≤b.v∧b.v≤1099511627776)∧Pt.label (strL b.sp)=true∧okL b.l=true∧b.l.length≤8∧∀ x∈b.l,okAn x=true:=by
 unfold right at h
 simp only[Bool.and_eq_true,decide_eq_true_eq] at h
 obtain ⟨h1,h2,h3⟩:=h
 have h4:=h3
 unfold okL at h4
 simp only[Bool.and_eq_true,decide_eq_true_eq] at h4
 refine ⟨h1,h2,h3,h4.1.2,fun x hx=>?_⟩
 obtain ⟨i,hi,rfl⟩:=List.getElem_of_mem hx
 have:=okL_at h3 i hi
 rwa [List.getD_eq_getElem?_getD,List.getElem?_eq_getElem hi] at this
theorem flat_len {α:Type} {f:α→List Nat} {k:Nat}:∀ (l:List α),(∀ x∈l,(f x).length≤k)→(l.map f).flatten.length≤k*l.length
 |[],_=>by simp
 |x :: r,h=>by
  have h1:=h x (by simp)
  have h2:=flat_len r (fun y hy=>h y (by simp[hy]))
  rw[List.map_cons,List.flatten_cons,List.length_append,List.length_cons,Nat.mul_succ]
  omega
theorem sa_len {l:List An} (h8:l.length≤8) (h:∀ x∈l,okAn x=true):(Pt.sort (l.map EA)).flatten.length≤512:=by
 have h1:(Pt.sort (l.map EA)).flatten.length=(l.map EA).flatten.length:=(List.Perm.flatten (Pt.sort_perm _)).length_eq
 have h2:=flat_len (f:=EA) (k:=64) l (fun x hx=>ea_len (h x hx))
 omega
theorem more_small {n:Nat} (h:n≤60000):Tl.more n≤2:=by
 unfold Tl.more
 repeat' split
 all_goals omega
theorem tx_ok {b:Bd} (h:Pt.label (strL b.sp)=true):(Fit (tx b)∧has (tx b)=true)∧Byt (tx b)∧(De.elemOf (tx b)).length≤26:=by
 obtain ⟨h1,h2⟩:=label_asked (m:=24) h (by omega)
 refine ⟨fit_txt ⟨by decide,by decide⟩ (by omega) h1,⟨by simp[tx,vTxt,none0],strL_lt b.sp⟩,?_⟩
 rw[len_elem (v:=tx b) (body_txt 24 _ h1) (by omega)];omega
theorem sa_dp {l:List An} (h8:l.length≤8) (h:∀ x∈l,okAn x=true):Dp 3 (SA l)∧(SA l).length≤516:=by
 have hl:=sa_len h8 h
 refine ⟨dp_list (t:=49) (by decide) (by omega) (fun y hy=>?_) (fun _=>Pt.sort_sorted _) (by omega),?_⟩
 ·rw[Pt.sort_mem] at hy
  obtain ⟨x,hx,rfl⟩:=List.mem_map.1 hy
  exact ea_dp (h x hx)
 ·have:=more_small (n:=(Pt.sort (l.map EA)).flatten.length) (by omega)
  rw[SA,Tl.elem_len];omega
theorem bb_ok {b:Bd} (h:right b=true):Dp 4 (BB b)∧(BB b).length≤600∧[De.elemOf (vInt b.v),De.elemOf (tx b),SA b.l].flatten.length≤590:=by
 obtain ⟨h1,h2,_,h8,h3⟩:=right_all h
 obtain ⟨t1,t2,t3⟩:=tx_ok h2
 obtain ⟨s1,s2⟩:=sa_dp h8 h3
 have e1:=len_int (n:=b.v)
 have hfl:[De.elemOf (vInt b.v),De.elemOf (tx b),SA b.l].flatten.length≤590:=by
  simp only[List.flatten_cons,List.flatten_nil,List.length_append,List.length_nil]
  omega
 refine ⟨dp_list (t:=48) (by decide) (by omega) (fun y hy=>?_) (fun h=>absurd h (by decide)) (by omega),?_,hfl⟩
 ·simp only[List.mem_cons,List.not_mem_nil,or_false] at hy
  rcases hy with rfl|rfl|rfl
  ·obtain ⟨i1,i2⟩:=fit_int (n:=b.v) ⟨by omega,by omega⟩
   exact (dp_leaf i1 (byt_n _ _) i2).mono 2
  ·exact (dp_leaf t1.1 t2 t1.2).mono 2
  ·exact s1
 ·have:=more_small (n:=[De.elemOf (vInt b.v),De.elemOf (tx b),SA b.l].flatten.length) (by omega)
  rw[BB,Tl.elem_len];omega
theorem putBd_ok {b:Bd} (h:right b=true):putBd b=⟨0,[],[BB b]⟩:=by
 obtain ⟨h1,h2,_,h8,h3⟩:=right_all h
 obtain ⟨t1,t2,t3⟩:=tx_ok h2
 have hl:=sa_len h8 h3
 obtain ⟨_,_,hbl⟩:=bb_ok h
 have e1:De.step De.St.zero (wOpen 48)=⟨0,[(48,[])],[]⟩:=step_opn (by decide) (by decide)
 have e2:De.step ⟨0,[(48,[])],[]⟩ (wInt b.v)=⟨0,[(48,[De.elemOf (vInt b.v)])],[]⟩:=step_val (v:=vInt b.v) (fit_int ⟨by omega,by omega⟩)
 have e3:De.step ⟨0,[(48,[De.elemOf (vInt b.v)])],[]⟩ (wTxt 24 b.sp)=⟨0,[(48,[De.elemOf (vInt b.v),De.elemOf (tx b)])],[]⟩:=step_val (v:=tx b) t1
 have e4:De.step ⟨0,[(48,[De.elemOf (vInt b.v),De.elemOf (tx b)])],[]⟩ (wOpen 49)=⟨0,[(49,[]),(48,[De.elemOf (vInt b.v),De.elemOf (tx b)])],[]⟩:=step_opn (by decide) (by simp)
 unfold putBd putAns
 rw[e1,e2,e3,e4,putAn_all b.l [] h3 (by simp),List.nil_append]
 have e5:De.step ⟨0,[(49,b.l.map EA),(48,[De.elemOf (vInt b.v),De.elemOf (tx b)])],[]⟩ wClose=⟨0,[(48,[De.elemOf (vInt b.v),De.elemOf (tx b),SA b.l])],[]⟩:=(step_cls (t:=49) (by rw[if_pos rfl];omega)).trans (by rw[if_pos rfl];rfl)
 rw[e5]
 exact (step_cls (t:=48) (by rw[if_neg (by decide)];omega)).trans (by rw[if_neg (by decide)];rfl)
theorem done_bd {b:Bd} (h:right b=true):De.done (putBd b)=.ok (BB b):=by
 rw[putBd_ok h]
 exact done_one (by have:=(bb_ok h).2.1;omega)
def docBd (b:Bd):De.St:=De.step (putAns (De.step (De.step (De.step De.St.zero (wOpen 48)) (wInt b.v)) (wTxt 64 b.sp)) b.l) wClose
theorem docBd_eq {b:Bd} (h:right b=true):docBd b=putBd b:=by
 obtain ⟨h1,h2,_,h8,h3⟩:=right_all h
 obtain ⟨a1,a2⟩:=label_asked (m:=24) h2 (by omega)
 obtain ⟨a3,_⟩:=label_asked (m:=64) h2 (by omega)
 have e1:De.step De.St.zero (wOpen 48)=⟨0,[(48,[])],[]⟩:=step_opn (by decide) (by decide)
 have e2:De.step ⟨0,[(48,[])],[]⟩ (wInt b.v)=⟨0,[(48,[De.elemOf (vInt b.v)])],[]⟩:=step_val (v:=vInt b.v) (fit_int ⟨by omega,by omega⟩)
 have e3:De.step ⟨0,[(48,[De.elemOf (vInt b.v)])],[]⟩ (wTxt 24 b.sp)=⟨0,[(48,[De.elemOf (vInt b.v)]++[De.elemOf (vTxt 24 (strL b.sp))])],[]⟩:=step_val (v:=vTxt 24 (strL b.sp)) (fit_txt ⟨by decide,by decide⟩ (by omega) a1)
 have e4:De.step ⟨0,[(48,[De.elemOf (vInt b.v)])],[]⟩ (wTxt 64 b.sp)=⟨0,[(48,[De.elemOf (vInt b.v)]++[De.elemOf (vTxt 64 (strL b.sp))])],[]⟩:=step_val (v:=vTxt 64 (strL b.sp)) (fit_txt ⟨by decide,by decide⟩ (by omega) a3)
 unfold docBd putBd
 rw[e1,e2,e3,e4,elemOf_ok (body_txt 24 _ a1),elemOf_ok (body_txt 64 _ a3)]
theorem bb_lt {b:Bd} (h:right b=true):∀ x∈BB b,x<256:=(bb_ok h).1.lt
def kOf (b:List Nat):ByteArray:=if b.length=16 then strOf (hexL b) else ⟨#[]⟩
def gAn (s:De.Rd):De.Rd×An :=
 (De.leave (De.ask (De.ask (De.ask (De.ask (De.ask s 1 48 0 0).1 3 0 1 1048576).1 6 0 16 16).1 9 0 0 0).1 9 0 0 0).1,
  ⟨(De.ask (De.ask s 1 48 0 0).1 3 0 1 1048576).2.n,kOf (De.ask (De.ask (De.ask s 1 48 0 0).1 3 0 1 1048576).1 6 0 16 16).2.b,(De.ask (De.ask (De.ask (De.ask s 1 48 0 0).1 3 0 1 1048576).1 6 0 16 16).1 9 0 0 0).2.n,(De.ask (De.ask (De.ask (De.ask (De.ask s 1 48 0 0).1 3 0 1 1048576).1 6 0 16 16).1 9 0 0 0).1 9 0 0 0).2.n⟩)
theorem key_back {k:ByteArray} (h:okKey k=true):kOf (kb k)=k:=by
 have hkk:(strL k).length=32∧hexOk (strL k)=true:=by
  have:(decide ((strL k).length=32)&&hexOk (strL k))=true:=h
  rwa [Bool.and_eq_true,decide_eq_true_eq] at this
 rw[kOf,if_pos (key_bytes h).1,kb,hexL_unhex _ hkk.2 (by rw[hkk.1]),strOf_strL]
theorem ask_ent {t:Nat} {b r:List Nat} {L:List (List Nat)} {lo hi:Int} (ht:Tl.made (t:Nat)=true) (hb:b.length≤65530):(De.ask ⟨0,Tl.elem t b++r,L⟩ 1 (t:Int) lo hi).1=⟨0,b,r :: L⟩:=by
 unfold De.ask
 rw[if_neg (fun h=>h rfl),if_pos rfl,enter_elem ht hb]
theorem gAn_ea {x:An} {r:List Nat} {L:List (List Nat)} (h:okAn x=true):gAn ⟨0,EA x++r,L⟩=(⟨0,r,L⟩,x):=by
 obtain ⟨h1,h2,h3,h4⟩:=okAn_all h
 obtain ⟨k1,k2⟩:=key_bytes h1
 have hl:=len_an h
 have e0:((vAn x).map De.elemOf).flatten=De.elemOf (vInt x.g)++(De.elemOf (vOct (kb x.k))++(De.elemOf (vMom x.f)++(De.elemOf (vMom x.t)++[]))):=rfl
 have e1:(De.ask ⟨0,EA x++r,L⟩ 1 48 0 0).1=⟨0,((vAn x).map De.elemOf).flatten,r :: L⟩:=ask_ent (t:=48) (by decide) (by omega)
 unfold gAn
 rw[e1,e0,ask_int ⟨by omega,by omega⟩ h2]
 show (De.leave (De.ask (De.ask (De.ask ⟨0,_,_⟩ 6 0 16 16).1 9 0 0 0).1 9 0 0 0).1,(⟨_,kOf (De.ask ⟨0,_,_⟩ 6 0 16 16).2.b,(De.ask (De.ask ⟨0,_,_⟩ 6 0 16 16).1 9 0 0 0).2.n,(De.ask (De.ask (De.ask ⟨0,_,_⟩ 6 0 16 16).1 9 0 0 0).1 9 0 0 0).2.n⟩:An))=_
 rw[ask_oct (by omega) (by omega)]
 show (De.leave (De.ask (De.ask ⟨0,_,_⟩ 9 0 0 0).1 9 0 0 0).1,(⟨_,kOf (kb x.k),(De.ask ⟨0,_,_⟩ 9 0 0 0).2.n,(De.ask (De.ask ⟨0,_,_⟩ 9 0 0 0).1 9 0 0 0).2.n⟩:An))=_
 rw[ask_mom h3,key_back h1]
 show (De.leave (De.ask ⟨0,_,_⟩ 9 0 0 0).1,(⟨_,x.k,_,(De.ask ⟨0,_,_⟩ 9 0 0 0).2.n⟩:An))=_
 rw[ask_mom h4]
 rfl
theorem rowG_ea:∀ (xs:List An) (f:Nat) (acc:List An) (L:List (List Nat)),(∀ x∈xs,okAn x=true)→xs.length≤f→rowG gAn f ⟨0,(xs.map EA).flatten,L⟩ acc=(⟨0,[],L⟩,acc++xs)
 |[],f,acc,L,_,_=>by
  rw[List.append_nil]
  exact rowG_stop (by simp[De.more]) f acc
 |x :: xs,f,acc,L,h,hf=>by
  obtain ⟨g,rfl⟩:∃ g,f=g+1:=⟨f-1,by have:xs.length+1≤f:=hf;omega⟩
  rw[List.map_cons,List.flatten_cons,rowG_next (show De.more ⟨0,EA x++_,L⟩=true from more_elem),gAn_ea (h x (by simp)),rowG_ea xs g _ L (fun y hy=>h y (by simp[hy])) (by have:xs.length+1≤g+1:=hf;omega),List.append_assoc]
  rfl
theorem row_sa {l:List An} {r:List Nat} {L:List (List Nat)} (h8:l.length≤8) (h:∀ x∈l,okAn x=true):∃ xs,xs.Perm l∧rowEnd gAn ⟨0,SA l++r,L⟩ 49 8=(⟨0,r,L⟩,xs):=by
 obtain ⟨xs,hp,he⟩:=sort_map EA l
 refine ⟨xs,hp,?_⟩
 have hl:=sa_len h8 h
 have e1:De.enter ⟨0,SA l++r,L⟩ 49=(⟨0,(Pt.sort (l.map EA)).flatten,r :: L⟩,true):=enter_elem (t:=49) (by decide) (by omega)
 unfold rowEnd
 rw[e1,he]
 show (De.leave (rowG gAn 8 ⟨0,(xs.map EA).flatten,r :: L⟩ []).1,if (De.leave (rowG gAn 8 ⟨0,(xs.map EA).flatten,r :: L⟩ []).1).e≠0 then [] else (rowG gAn 8 ⟨0,(xs.map EA).flatten,r :: L⟩ []).2)=_
 rw[rowG_ea xs 8 [] _ (fun x hx=>h x (hp.mem_iff.1 hx)) (by rw[hp.length_eq];exact h8)]
 rfl
def rd1 (b:Bd):De.Rd:=⟨0,De.elemOf (vInt b.v)++(De.elemOf (tx b)++(SA b.l++[])),[[]]⟩
def rd2 (b:Bd):De.Rd:=⟨0,De.elemOf (tx b)++(SA b.l++[]),[[]]⟩
def rd3 (b:Bd):De.Rd:=⟨0,SA b.l++[],[[]]⟩
theorem rd_start {b:Bd} (h:right b=true):De.start (BB b)=⟨0,BB b,[]⟩:=start_dp ((bb_ok h).1.mono 12)
theorem rd_enter {b:Bd} (h:right b=true):De.enter ⟨0,BB b,[]⟩ 48=(rd1 b,true):=by
 have:=enter_elem (t:=48) (b:=[De.elemOf (vInt b.v),De.elemOf (tx b),SA b.l].flatten) (r:=[]) (L:=[]) (by decide) (by have:=(bb_ok h).2.2;omega)
 rwa [List.append_nil] at this
theorem rd_int {b:Bd} (h:right b=true):De.ask (rd1 b) 3 0 1 1099511627776=(rd2 b,{ De.none0 with n:=b.v }):=by
 have h1:=(right_all h).1
 exact ask_int ⟨by omega,by omega⟩ h1
theorem rd_txt {b:Bd} (h:right b=true):De.ask (rd2 b) 7 0 0 24=(rd3 b,{ De.none0 with t:=strL b.sp }):=by
 have h2:=label_asked (m:=24) (right_all h).2.1 (by omega)
 exact ask_txt ⟨by decide,by decide⟩ (by omega) h2.1 h2.1
theorem rd_row {b:Bd} (h:right b=true):∃ xs,xs.Perm b.l∧rowEnd gAn (rd3 b) 49 8=(⟨0,[],[[]]⟩,xs):=row_sa (right_all h).2.2.2.1 (right_all h).2.2.2.2
end Bu
end Go.Proofs.YtjjbkpjjmbfdhaaGreatDoor
