import Derived.Test.YtndkifkhdollgaaGreatDoorZr00
import Derived.Test.YtndkifkhdollgaaGreatDoorZr02
import Derived.Test.YtndkifkhdollgaaGreatDoorZr07
import Derived.Test.YtndkifkhdollgaaGreatDoorZr10
import Derived.Test.YtndkifkhdollgaaGreatDoorZr11
import Derived.Test.YtndkifkhdollgaaGreatDoorZr12
import Derived.Test.YtndkifkhdollgaaGreatDoorZr22
import Derived.Test.YtndkifkhdollgaaGreatDoorZr24
import Derived.WalkKit
import Derived.BigQuiet
import Derived.Test.YtndkifkhdollgaaGreatDoorChecked
import Derived.Lib.Hide
set_option linter.unusedVariables false
set_option linter.unusedSimpArgs false
set_option maxRecDepth 100000
set_option maxHeartbeats 1000000
namespace Go.Proofs.YtndkifkhdollgaaGreatDoor
open Lib (hid)
open Go.RowKit
def serL (n:Int):List Nat:=if n<0 then [] else Wh.dig n.toNat
theorem strOf_append (a b:List Nat):strOf (a++b)=strOf a++strOf b:=by
 apply ByteArray.ext
 simp[strOf,ByteArray.data_append]
theorem digF_len:∀ (f n:Nat),(Wh.digF f n).length≤f+1
 |0,n=>by simp[Wh.digF]
 |f+1,n=>by
  rw[Wh.digF]
  split
  ·simp
  ·have:=digF_len f (n/10)
   simp
   omega
theorem dig_len (n:Nat):(Wh.dig n).length≤21:=digF_len 20 n
theorem conv_i8 (k:Nat) (hk:k<256) (w:World):(convert 3 5 (.int .i64 ((k:Nat):Int))).run Tryz.prog w=.ok (.int .u8 ((k:Nat):Int)) w:=by
 simp[go_sem]
 simp only[IntKind.wrap,IntKind.bits,IntKind.signed]
 simp
 omega
theorem build_u8 (k:Nat) (w:World):(Instr.buildSlice 22 1 #[(0,.int .u8 ((k:Nat):Int))]).run Tryz.prog w=.ok (.slice (some ⟨w.heap.size,0,none⟩) 1 1) (w.alloc (.cells #[.int .u8 ((k:Nat):Int)] 5)):=by
 simp[go_sem]
theorem refSerial_any (u:Nat) (hu:u<9223372036854775808):∀ w,
  Calls Tryz.prog 170 #[.int .i64 (u:Int)] w fun e w'=>e=.returned (.string (strOf (Wh.dig u)))∧w.grownBy w' none:=by
 induction u using Nat.strongRecOn with
 |_ u ih =>
  intro w
  by_cases h10:u<10
  ·have HX:Hid (strOf (Wh.dig u)=strOf [48+u]):=hid (by rw[Wh.dig_small h10])
   have HB:Hid (Bytes (w.alloc (.cells #[.int .u8 ((48:Int)+(u:Int))] 5)) (.slice (some ⟨w.heap.size,0,none⟩) 1 1) [48+u]):=hid (Bytes.lit (l:=[48+u]) (t:=5) (fr:=(0,0)) (by rw[alloc_at];simp[cellsL]) (by simp;omega))
   have HG:=hid (World.grownBy_alloc w (.cells #[.int .u8 ((48:Int)+(u:Int))] 5) none)
   have hc:=conv_bytes (P:=Tryz.prog) HB.out 22 5 9 Tryz.underlying22 Tryz.underlying5 Tryz.underlying9
   rw[HX.out]
   generalize strOf [48+u]=t at *
   clear ih hu
   go_enter Tryz.func170,Tryz.ntmps170
   go_wp2
   go_ret
   exact ⟨rfl,HG.out⟩
  ·have h:=ih (u/10) (by omega) (by omega)
   have HX:Hid (strOf (Wh.dig u)=strOf (Wh.dig (u/10))++strOf [48+u%10]):=hid (by rw[Wh.dig_step (by omega) (by omega),strOf_append])
   have hlen:(strOf (Wh.dig (u/10))).size+(strOf [48+u%10]).size≤1000:=by
    rw[strOf_size,strOf_size]
    have:=dig_len (u/10)
    simp
    omega
   have Hlen:=hid hlen
   have hS2:∀ w x,Bytes w x [48+u%10]→(convert 22 9 x).run Tryz.prog w=.ok (.string (strOf [48+u%10])) w:=fun w x hx=>conv_bytes hx _ 5 _ Tryz.underlying22 Tryz.underlying5 Tryz.underlying9
   have HS2:=hid hS2
   have HI:=hid h
   rw[HX.out]
   generalize strOf (Wh.dig (u/10))=T1 at *
   generalize strOf [48+u%10]=T2 at *
   clear ih hlen hS2 h
   go_enter Tryz.func170,Tryz.ntmps170
   go_wp2
   refine rs_region _ u T1 T2 w _ _ rfl rfl (fun W _=>(HI.out W).mono (fun e w' ⟨h1,h2⟩=>⟨_,h1,h2,rfl⟩)) (conv_i8 _ (by omega)) (build_u8 _) (by omega) HS2.out ?_ ?_ ?_ Hlen.out ⟨rfl,rfl,rfl,Nat.le_refl _,fun _ _ _=>rfl⟩ (fun us w4 hg4=>?_)
   ·simp only[IntKind.wrap,IntKind.bits,IntKind.signed]
    rw[Int.tdiv_eq_ediv_of_nonneg (by omega)]
    simp
    omega
   ·rw[Int.tmod_eq_emod_of_nonneg (by omega)]
    omega
   ·simp only[IntKind.wrap,IntKind.bits,IntKind.signed]
    simp
    omega
   simp only[fill_cons,fill_nil,Act.put,List.setIfInBounds_toArray,List.set_cons_succ,List.set_cons_zero]
   have HG4:=hid hg4
   clear hg4
   go_wp2
   go_ret
   exact ⟨rfl,HG4.out⟩
namespace Od
theorem text_snoc:∀ (l:List Int) (n:Int),text (l++[n])=if l=[] then Wh.dig n.toNat else text l++46 :: Wh.dig n.toNat
 |[],n=>rfl
 |[x],n=>by simp[text]
 |x :: y :: r,n=>by
  have h:=text_snoc (y :: r) n
  have e1:text (x :: y :: r)=Wh.dig x.toNat++46 :: text (y :: r):=rfl
  have e2:text (x :: y :: r++[n])=Wh.dig x.toNat++46 :: text (y :: r++[n]):=rfl
  rw[e2,h,e1,if_neg (by simp),if_neg (by simp),List.append_assoc]
  rfl
theorem text_take (l:List Int) (k:Nat) (h:k<l.length):text (l.take (k+1))=if k=0 then Wh.dig (l.getD k 0).toNat else text (l.take k)++46 :: Wh.dig (l.getD k 0).toNat:=by
 have e:l.getD k 0=l[k]:=by rw[List.getD_eq_getElem?_getD,List.getElem?_eq_getElem h];rfl
 rw[List.take_add_one,List.getElem?_eq_getElem h,Option.toList_some,text_snoc,e]
 by_cases hk:k=0
 ·subst hk;simp
 ·rw[if_neg hk,if_neg]
  intro he
  have:=congrArg List.length he
  rw[List.length_take,List.length_nil] at this
  omega
theorem text_len:∀ l:List Int,(text l).length≤22*l.length
 |[]=>by simp[text]
 |[n]=>by have:=dig_len n.toNat;simp[text];omega
 |x :: y :: r=>by
  have h:=text_len (y :: r)
  have:=dig_len x.toNat
  rw[text]
  ·simp only[List.length_append,List.length_cons] at *
   omega
  ·simp
end Od
theorem refOText_any (v:Value) (l:List Int) (w:World) (hB:Ints w v l) (hl:l.length≤1000) (hr:∀ n∈l,0≤n∧n≤2147483647) :
  Calls Tryz.prog 127 #[v] w fun e w'=>e=.returned (.string (strOf (Od.text l)))∧w.grownBy w' none:=by
 obtain ⟨a,sb,so,c,rfl,hc,ha,hcell⟩:=hB
 obtain ⟨n,hn⟩:∃ n,n=l.length:=⟨_,rfl⟩
 have HTk:Hid (∀ k,k<n→Od.text (l.take (k+1))=if k=0 then Wh.dig (l.getD k 0).toNat else Od.text (l.take k)++46 :: Wh.dig (l.getD k 0).toNat):=hid (fun k hk=>Od.text_take l k (by omega))
 have HTl:Hid (∀ k,(strOf (Od.text (l.take k))).size≤22*k):=hid (fun k=>by
  rw[strOf_size]
  have:=Od.text_len (l.take k)
  rw[List.length_take] at this
  omega)
 have HEn:Hid (Od.text (l.take n)=Od.text l):=hid (by rw[List.take_of_length_le (by omega)])
 have HNat:Hid (∀ k,k<n→∃ u:Nat,l.getD k 0=u∧u≤2147483647):=hid (fun k hk=>by
  have hk':k<l.length:=by omega
  have:=hr l[k] (List.getElem_mem hk')
  have e:l.getD k 0=l[k]:=by rw[List.getD_eq_getElem?_getD,List.getElem?_eq_getElem hk'];rfl
  exact ⟨(l.getD k 0).toNat,by omega,by omega⟩)
 have HRS:=hid (fun u (hu:u≤2147483647) W=>refSerial_any u (by omega) W)
 have HDl:Hid (∀ u,(strOf (Wh.dig u)).size≤21):=hid (fun u=>by rw[strOf_size];exact dig_len u)
 rw[←hn] at hc ha hcell hl ⊢
 have HA:=hid ha
 have HC0:=hid (fun (W:World) (hW:w.grownBy W none) (j:Nat) (hj:j<n)=>by
  have:=hcell j hj
  rw[←World.cell?_of_block (hW.block sb (ha (by omega)).2 (by simp))] at this
  exact this)
 clear hn hr ha hcell
 go_enter Tryz.func127,Tryz.ntmps127
 go_wp2
 go_loopw [3,8] (fun out i wr=>∃ k:Nat,k≤n∧i=.int .i64 k∧out=.string (strOf (Od.text (l.take k)))∧w.grownBy wr none) (fun _ i _=>n-(intOf i).toNat)
 case atStart=>exact ⟨0,by omega,rfl,rfl,grown_refl _ _⟩
 case round =>
  obtain ⟨k,hk,rfl,rfl,hG⟩:=hrel
  have HG:=hid hG
  clear hG
  by_cases hkn:k<n
  ·obtain ⟨rfl,_⟩:=HA.out (by omega)
   have hck:=HC0.out _ HG.out k hkn
   obtain ⟨u,hu,hu2⟩:=HNat.out k hkn
   have htk:=HTk.out k hkn
   rw[hu] at hck htk
   rw[Int.toNat_natCast] at htk
   have HS:=hid (HRS.out u hu2)
   have hD:=HDl.out u
   have hT:=HTl.out k
   by_cases hk0:k=0
   ·subst hk0
    rw[if_pos rfl] at htk
    rw[Nat.add_zero] at hck
    have HTt:Hid (strOf (Od.text (l.take (0+1)))=strOf (Od.text (l.take 0))++strOf (Wh.dig u)):=hid (by
     rw[htk,show Od.text (l.take 0)=[] from rfl,←strOf_append];rfl)
    generalize strOf (Wh.dig u)=D at *
    generalize strOf (Od.text (l.take 0))=T at *
    clear htk hu
    go_wp2_with (go_at_call 170;refine (HS.out _).mono ?_;rintro e w2 ⟨rfl,hg2⟩;have HG2:=hid (grown_trans HG.out hg2);clear hg2)
    go_roundw
    case rel=>exact ⟨0+1,by omega,by go_num,by rw[HTt.out],HG2.out⟩
    case measure=>simp[intOf];omega
   ·rw[if_neg hk0] at htk
    have HTt:Hid (strOf (Od.text (l.take (k+1)))=strOf (Od.text (l.take k))++⟨#[46]⟩++strOf (Wh.dig u)):=hid (by
     rw[htk,List.append_cons,strOf_append,strOf_append];rfl)
    generalize strOf (Wh.dig u)=D at *
    generalize strOf (Od.text (l.take k))=T at *
    clear htk hu
    go_wp2_with (go_at_call 170;refine (HS.out _).mono ?_;rintro e w2 ⟨rfl,hg2⟩;have HG2:=hid (grown_trans HG.out hg2);clear hg2)
    go_roundw
    case rel=>exact ⟨k+1,by omega,by go_num,by rw[HTt.out],HG2.out⟩
    case measure=>simp[intOf];omega
  ·obtain rfl:k=n:=by omega
   rw[HEn.out]
   go_wp2
   go_ret
   exact ⟨rfl,HG.out⟩
def TxSpec (A:Nat→Addr) (w:World):Prop:=∀ (v:Value) (l:List Int) (W:World),w.grownBy W none→Ints W v l→l.length≤100000→Calls Tryz.prog 160 #[v] W fun e w'=>W.grownBy w' none∧e=.returned (if Od.right l=true then .tuple #[.string (strOf (Od.text l)),.nilIface] else .tuple #[.string ⟨#[]⟩,errV A 1])
theorem dig_lt (u:Nat) (h:u<100000000000000000000):∀ x∈Wh.dig u,x<256:=fun x hx=>by
 have:=List.all_eq_true.1 (Wh.dig_fig u h) x hx
 simp[Wh.fig] at this
 omega
theorem text_lt:∀ (l:List Int),(∀ n∈l,0≤n∧n≤2147483647)→∀ x∈Od.text l,x<256
 |[],_,x,h=>by simp[Od.text] at h
 |[n],hl,x,h=>by
  have:=(hl n (by simp)).2
  exact dig_lt n.toNat (by omega) x h
 |n :: m :: r,hl,x,h=>by
  have h1:=(hl n (by simp)).2
  have e:Od.text (n :: m :: r)=Wh.dig n.toNat++46 :: Od.text (m :: r):=rfl
  rw[e] at h
  rcases List.mem_append.1 h with h|h
  ·exact dig_lt n.toNat (by omega) x h
  ·rcases List.mem_cons.1 h with rfl|h
   ·decide
   ·exact text_lt (m :: r) (fun z hz=>hl z (by simp[hz])) x h
end Go.Proofs.YtndkifkhdollgaaGreatDoor
