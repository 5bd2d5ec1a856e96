import Derived.Test.YtjjbkpjjmbfdhaaGreatDoorZb01
import Derived.Test.YtjjbkpjjmbfdhaaGreatDoorZb11
import Derived.Test.YtjjbkpjjmbfdhaaGreatDoorZb14
import Derived.Test.YtjjbkpjjmbfdhaaGreatDoorZb15
import Derived.Test.YtjjbkpjjmbfdhaaGreatDoorZb20
import Derived.Lib.Bytealg
import Derived.Laws.Externs
import Derived.Laws.Tables
import Derived.WalkKit
set_option linter.unusedVariables false
set_option linter.unusedSimpArgs false
set_option maxRecDepth 100000
set_option maxHeartbeats 2000000
namespace Go.Proofs.YtjjbkpjjmbfdhaaGreatDoor
open Lib (hid)
open Go.RowKit
def hv (c:Nat):Nat:=if 48≤c∧c≤57 then c-48 else if 97≤c∧c≤102 then c-87 else 16
def hexOk (l:List Nat):Bool:=l.all fun c=>decide (hv c<16)
def unhex:List Nat→List Nat
 |a :: b :: r=>(16*hv a+hv b) :: unhex r
 |_=>[]
theorem fig_hv {c:Nat} (h:hv c<16):fig (hv c)=c:=by
 unfold hv at h ⊢
 split at h
 ·rename_i h1
  rw[if_pos h1]
  unfold fig
  rw[if_pos (by omega)]
  omega
 ·rename_i h1
  rw[if_neg h1]
  split at h
  ·rename_i h2
   rw[if_pos h2]
   unfold fig
   rw[if_neg (by omega)]
   omega
  ·omega
theorem unhex_len:∀ l:List Nat,(unhex l).length=l.length/2
 |[]=>rfl
 |[_]=>by simp[unhex]
 |a :: b :: r=>by
  rw[unhex,List.length_cons,unhex_len r,List.length_cons,List.length_cons]
  omega
theorem hexL_unhex:∀ l:List Nat,hexOk l=true→l.length%2=0→hexL (unhex l)=l
 |[],_,_=>rfl
 |[_],_,h=>by simp at h
 |a :: b :: r,h,h2=>by
  simp only[hexOk,List.all_cons,Bool.and_eq_true,decide_eq_true_eq] at h
  obtain ⟨ha,hb,hr⟩:=h
  have h2':r.length%2=0:=by simp only[List.length_cons] at h2;omega
  rw[unhex,hexL,hexL_unhex r hr h2',show (16*hv a+hv b)/16=hv a by omega,show (16*hv a+hv b)%16=hv b by omega,fig_hv ha,fig_hv hb]
theorem unhex_lt:∀ l:List Nat,hexOk l=true→∀ x∈unhex l,x<256
 |[],_=>by simp[unhex]
 |[_],_=>by simp[unhex]
 |a :: b :: r,h=>by
  simp only[hexOk,List.all_cons,Bool.and_eq_true,decide_eq_true_eq] at h
  obtain ⟨ha,hb,hr⟩:=h
  intro x hx
  rw[unhex,List.mem_cons] at hx
  rcases hx with rfl|hx
  ·omega
  ·exact unhex_lt r hr x hx
theorem unhex_snoc:∀ (l:List Nat) (a b:Nat),l.length%2=0→unhex (l++[a,b])=unhex l++[16*hv a+hv b]
 |[],a,b,_=>rfl
 |[_],_,_,h=>by simp at h
 |x :: y :: r,a,b,h=>by
  have h':r.length%2=0:=by simp only[List.length_cons] at h;omega
  rw[List.cons_append,List.cons_append,unhex,unhex_snoc r a b h',unhex]
  rfl
theorem take_one (l:List Nat) (k:Nat) (h:k<l.length):l.take (k+1)=l.take k++[l.getD k 0]:=by
 have e:l.getD k 0=l[k]:=by rw[List.getD_eq_getElem?_getD,List.getElem?_eq_getElem h];rfl
 rw[List.take_add_one,List.getElem?_eq_getElem h,e]
 rfl
theorem take_two (l:List Nat) (k:Nat) (h:k+1<l.length):l.take (k+2)=l.take k++[l.getD k 0,l.getD (k+1) 0]:=by
 rw[show k+2=(k+1)+1 by omega,take_one l (k+1) h,take_one l k (by omega),List.append_assoc]
 rfl
theorem hexOk_take (l:List Nat) (k:Nat) (h:k<l.length):hexOk (l.take (k+1))=(hexOk (l.take k)&&decide (hv (l.getD k 0)<16)):=by
 rw[List.take_add_one,List.getElem?_eq_getElem h,hexOk,List.all_append]
 simp[hexOk,List.getD_eq_getElem?_getD,List.getElem?_eq_getElem h]
theorem hexOk_pre {l:List Nat} {k:Nat} (h:hexOk (l.take k)=false):hexOk l=false:=by
 cases h2:hexOk l
 ·rfl
 ·rw[←Bool.not_eq_true] at h
  refine absurd ?_ h
  unfold hexOk at h2 ⊢
  rw[List.all_eq_true] at h2 ⊢
  exact fun x hx=>h2 x (List.mem_of_mem_take hx)
def ixv (c:Nat):Int:=if hv c<16 then (hv c:Int) else -1
theorem ix_figs:∀ c:Fin 256,Lib.indexByte figS.data.toList c.val.toUInt8=ixv c.val:=by decide +kernel
theorem index_any (c:Nat) (hc:c<256) (w:World) :
  Calls Tryz.prog 63 #[.string figS,.int .u8 c] w fun e w'=>e=.returned (.int .i64 (ixv c))∧w'=w:=by
 have h69:(callFunc 138 #[.string figS,.int .u8 c]).run Tryz.prog w=.ok (.value (.int .i64 (ixv c))) w:=by
  rw[@run_callFunc_extern Tryz.prog 138 _ Extern.BytealgIndexByte.indexByte Tryz.func138 (by kernel_rfl) (by kernel_rfl) (by kernel_rfl) (by kernel_rfl),Lib.run_indexByteString,Int.toNat_natCast,ix_figs ⟨c,hc⟩]
  rfl
 generalize ixv c=x at *
 generalize figS=fs at *
 go_enter Tryz.func63,Tryz.ntmps63
 go_wp2
 go_ret
 exact ⟨rfl,rfl⟩
def ByPost (A:Nat→Addr) (w':World) (l:List Nat) (e:Ending):Prop :=
 if l.length=32∧hexOk l=true then ∃ a c,e=.returned (.tuple #[.slice a 16 c,.nilIface])∧Bytes w' (.slice a 16 c) (unhex l)∧Whole0 (.slice a 16 c)
 else e=.returned (.tuple #[.slice none 0 0,errV A 4])
theorem or_hex (h l:Nat) (hh:h<16) (hl:l<16):bits .or .i64 ((h:Int)*16) (l:Int)=((16*h+l:Nat):Int):=by
 have e:(h:Int)*16=((16*h:Nat):Int):=by rw[Nat.mul_comm];simp
 rw[e]
 have hw:∀ n:Nat,n<9223372036854775808→(BitVec.ofInt 64 (n:Int)).toNat=n:=fun n hn=>by
  rw[BitVec.ofInt_natCast,BitVec.toNat_ofNat];exact Nat.mod_eq_of_lt (by omega)
 show IntKind.i64.wrap ((BitVec.ofInt 64 ((16*h:Nat):Int) ||| BitVec.ofInt 64 (l:Int)).toNat:Int)=_
 rw[BitVec.toNat_or,hw _ (by omega),hw _ (by omega)]
 have e2:16*h ||| l=16*h+l:=(Nat.two_pow_add_eq_or_of_lt (i:=4) (b:=l) (by omega) h).symm
 rw[e2]
 simp only[IntKind.wrap,IntKind.bits,IntKind.signed]
 simp
 omega
def zeros16:Array Value:=bytesV (List.replicate 16 0)
theorem make16 (W:World):(Instr.makeSlice 27 (.int .i64 16) (.int .i64 16)).run Tryz.prog W=.ok (.slice (some ⟨W.heap.size,0,none⟩) 16 16) (W.alloc (.cells zeros16 5)):=by
 obtain ⟨iT,i1,i2,i3,i4⟩:=info_parts (P:=Tryz.prog) (e:=5) (z:=.int .u8 0) (size:=1) (bytes:=1) (by kernel_rfl)
 rw[run_makeSlice W 27 5 iT (.int .u8 0) Tryz.underlying27 i1 i2 .i64 .i64 16 16 (by decide) (by decide) (by rw[i3];decide) (by rw[i4];decide) (by decide),i3]
 have e:madeCells (Value.int IntKind.u8 0).cells (Int.toNat 16*1)=zeros16:=by kernel_rfl
 rw[e]
 rfl
structure KeyW (w wr:World) (done:List Nat):Prop where
 grown:w.grownBy wr none
 blk:wr.heap[w.heap.size]?=some (.cells (bytesV (done++List.replicate (16-done.length) 0)) 5 (0,0))
theorem KeyW.set {w wr:World} {done:List Nat} (h:KeyW w wr done) (hd:done.length<16) (x:Nat):KeyW w (wr.setCell ⟨w.heap.size,done.length,none⟩ (.int .u8 (x:Int))) (done++[x]) :=
 ⟨grown_set h.grown (.inl (Nat.le_refl _)) _,by rw[setCell_heap h.blk,bytesV_set 16 done x hd]⟩
theorem bytes_any (A:Nat→Addr) (s:ByteArray) (w:World) (hs:s.size≤1099511620000) (hE:AllErrs w A) :
  Calls Tryz.prog 23 #[.string s] w fun e w'=>ByPost A w' (strL s) e∧w.grownBy w' none:=by
 have HED:Hid (∀ W,w.grownBy W none→W.cell? ⟨0,0,none⟩=some (errV A 4)):=hid (fun W hW=>by
  have e4:=errs_at (hE.grown hW) 4 (by decide)
  simp only[errVars,List.getD_cons_zero,List.getD_cons_succ,Nat.add_one_sub_one] at e4
  exact e4)
 obtain ⟨n,hn⟩:∃ n,n=s.size:=⟨_,rfl⟩
 have HN:=hid hn
 have HLn:Hid ((strL s).length=n):=hid (by rw[strL_len,hn])
 have hnn:n≤1099511620000:=by omega
 clear hE hn hs
 by_cases h32:n=32
 ·subst h32
  have hl:((s.size:Nat):Int)=32:=by have:=HN.out;omega
  have HK0:Hid (KeyW w (w.alloc (.cells zeros16 5)) []):=hid ⟨World.grownBy_alloc _ _ _,alloc_at _ _⟩
  have hmk:=make16 w
  obtain ⟨L,hL⟩:∃ L,L=strL s:=⟨_,rfl⟩
  have HIx:Hid (∀ j:Nat,j<32→∀ W,(Instr.index 9 (.string s) (.int .i64 (j:Int))).run Tryz.prog W=.ok (.int .u8 (L.getD j 0:Nat)) W):=hid (fun j hj W=>by
   have hjs:j<s.size:=by have:=HN.out;omega
   rw[run_index_string W _ s .i64 j Tryz.underlying9,dif_pos ⟨by omega,by omega⟩,hL,←strL_getD s j hjs]
   rfl)
  have HLt:Hid (∀ j:Nat,L.getD j 0<256):=hid (fun j=>getD_lt' (by rw[hL];exact strL_lt s) j)
  rw[←hL] at HLn ⊢
  have HXb:Hid (∀ e w' j,j≤32→hexOk (L.take j)=false→e=Ending.returned (.tuple #[.slice none 0 0,errV A 4])→ByPost A w' L e):=hid (fun e w' j _ hj h=>by unfold ByPost;rw[if_neg (fun h=>by rw[hexOk_pre hj] at h;cases h.2)];exact h)
  have HXg:Hid (∀ e w',hexOk L=true→(∃ a c,e=.returned (.tuple #[.slice a 16 c,.nilIface])∧Bytes w' (.slice a 16 c) (unhex L)∧Whole0 (.slice a 16 c))→ByPost A w' L e):=hid (fun e w' hh h=>by unfold ByPost;rw[if_pos ⟨HLn.out,hh⟩];exact h)
  clear hL
  go_enter Tryz.func23,Tryz.ntmps23
  go_wp2
  clear hmk hl
  go_loopw [15] (fun i wr=>∃ k:Nat,k≤16∧i=.int .i64 k∧hexOk (L.take (2*k))=true∧KeyW w wr (unhex (L.take (2*k)))) (fun i _=>16-(intOf i).toNat)
  case atStart=>exact ⟨0,by omega,rfl,rfl,HK0.out⟩
  case round =>
   obtain ⟨k,hk,rfl,hok,hK⟩:=hrel
   have HOk:=hid hok
   have HKw:=hid hK
   clear hok hK
   by_cases hk16:k<16
   ·obtain ⟨c1,hc1⟩:∃ c,c=L.getD (2*k) 0:=⟨_,rfl⟩
    obtain ⟨c2,hc2⟩:∃ c,c=L.getD (2*k+1) 0:=⟨_,rfl⟩
    have hi1:=HIx.out (2*k) (by omega)
    have hi2:=HIx.out (2*k+1) (by omega)
    rw[←hc1] at hi1
    rw[←hc2] at hi2
    have e1:((2*k:Nat):Int)=2*(k:Int):=by omega
    have e2:((2*k+1:Nat):Int)=2*(k:Int)+1:=by omega
    rw[e1] at hi1
    rw[e2] at hi2
    have I1:=hid (fun W=>index_any c1 (by rw[hc1];exact HLt.out _) W)
    have I2:=hid (fun W=>index_any c2 (by rw[hc2];exact HLt.out _) W)
    have HT1:=hid (hexOk_take L (2*k) (by rw[HLn.out];omega))
    have HT2:=hid (hexOk_take L (2*k+1) (by rw[HLn.out];omega))
    have HU:Hid (unhex (L.take (2*(k+1)))=unhex (L.take (2*k))++[16*hv c1+hv c2]):=hid (by
     rw[show 2*(k+1)=2*k+2 by omega,take_two L (2*k) (by rw[HLn.out];omega),unhex_snoc _ _ _ (by rw[List.length_take,HLn.out];omega),hc1,hc2])
    rw[←hc1] at HT1
    rw[←hc2] at HT2
    clear e1 e2 hc1 hc2
    by_cases h1:hv c1<16
    ·by_cases h2:hv c2<16
     ·have x1:ixv c1=(hv c1:Int):=by rw[ixv,if_pos h1]
      have x2:ixv c2=(hv c2:Int):=by rw[ixv,if_pos h2]
      rw[x1] at I1
      rw[x2] at I2
      clear x1 x2
      generalize hv c1=a at *
      generalize hv c2=b at *
      have p1:decide ((a:Int)<0)=false:=decide_eq_false (by omega)
      have p2:decide ((b:Int)<0)=false:=decide_eq_false (by omega)
      go_wp2
      go_quiet ((go_at_call 63;first|exact Calls.quiet_of_same (I1.out _)|exact Calls.quiet_of_same (I2.out _)))
      have hul:(unhex (L.take (2*k))).length=k:=by rw[unhex_len,List.length_take,HLn.out];omega
      have HKn:=hid (show KeyW w (wr.drewN nq) (unhex (L.take (2*k))) from ⟨grown_drewN HKw.out.grown _,HKw.out.blk⟩)
      have hset:=HKn.out.set (by rw[hul];exact hk16) (16*a+b)
      rw[hul] at hset
      have HSet:=hid hset
      have hz:=cell_blk HKw.out.blk k (by have:=bytesV_zero 16 (unhex (L.take (2*k))) (by rw[hul];exact hk16);rwa [hul] at this ⊢)
      have hf:=free_blk HKw.out.blk k
      have hor:=or_hex a b h1 h2
      have HOr:=hid hor
      have hwu:((16*a+b:Nat):Int)%256=((16*a+b:Nat):Int):=by omega
      obtain ⟨y,hy⟩:∃ y,y=16*a+b:=⟨_,rfl⟩
      have hy256:y<256:=by omega
      rw[←hy] at HSet HU hor hwu
      have HOk2:Hid (hexOk (L.take (2*(k+1)))=true):=hid (by
       rw[show 2*(k+1)=2*k+1+1 by omega,HT2.out,HT1.out,HOk.out]
       simp[h1,h2])
      clear hy hset hul HOr hwu
      go_wp2
      go_roundw
      case rel=>exact ⟨k+1,by omega,by go_num,HOk2.out,by rw[HU.out];exact HSet.out⟩
      case measure=>simp[intOf];omega
     ·have x1:ixv c1=(hv c1:Int):=by rw[ixv,if_pos h1]
      have x2:ixv c2=-1:=by rw[ixv,if_neg h2]
      rw[x1] at I1
      rw[x2] at I2
      have HBad:Hid (hexOk (L.take (2*k+1+1))=false):=hid (by
       rw[HT2.out]
       simp[h2])
      clear x1 x2
      generalize hv c1=a at *
      have p1:decide ((a:Int)<0)=false:=decide_eq_false (by omega)
      have eF:=HED.out wr HKw.out.grown
      go_wp2
      go_quiet ((go_at_call 63;first|exact Calls.quiet_of_same (I1.out _)|exact Calls.quiet_of_same (I2.out _)))
      go_wp2
      go_quiet (fail)
      go_wp2
      go_ret2
      exact ⟨HXb.out _ _ _ (by omega) HBad.out rfl,grown_drewN (grown_drewN HKw.out.grown _) _⟩
    ·have x1:ixv c1=-1:=by rw[ixv,if_neg h1]
     rw[x1] at I1
     have HBad:Hid (hexOk (L.take (2*k+1))=false):=hid (by
      rw[HT1.out]
      simp[h1])
     clear x1
     generalize ixv c2=b at *
     have eF:=HED.out wr HKw.out.grown
     go_wp2
     go_quiet ((go_at_call 63;first|exact Calls.quiet_of_same (I1.out _)|exact Calls.quiet_of_same (I2.out _)))
     go_wp2
     go_quiet (fail)
     go_wp2
     go_ret2
     exact ⟨HXb.out _ _ _ (by omega) HBad.out rfl,grown_drewN (grown_drewN HKw.out.grown _) _⟩
   ·obtain rfl:k=16:=by omega
    have htk:L.take (2*16)=L:=List.take_of_length_le (by rw[HLn.out];decide)
    have hok:=HOk.out
    have hK:=HKw.out.blk
    rw[htk] at hok hK
    have hul:(unhex L).length=16:=by rw[unhex_len,HLn.out]
    have HBy:Hid (Bytes wr (.slice (some ⟨w.heap.size,0,none⟩) 16 16) (unhex L)):=hid (by
     have:=Bytes.lit (w:=wr) (g:=w.heap.size) (l:=unhex L) (t:=5) (fr:=(0,0)) (by rw[hul] at hK;simpa [bytesV,cellsL] using hK) (unhex_lt L hok)
     rwa [hul] at this)
    have HOk3:=hid hok
    clear hok hK hul htk
    go_wp2
    go_ret2
    exact ⟨HXg.out _ _ HOk3.out ⟨_,_,rfl,HBy.out,Whole0.some _ _ _⟩,HKw.out.grown⟩
 ·have HX:Hid (∀ e w',e=Ending.returned (.tuple #[.slice none 0 0,errV A 4])→ByPost A w' (strL s) e):=hid (fun e w' h=>by unfold ByPost;rw[if_neg (by rw[HLn.out];exact fun h=>h32 h.1)];exact h)
  have d1:(((s.size:Nat):Int) != 32)=true:=by have:=HN.out;simp;omega
  have eF:=HED.out w (grown_refl _ _)
  go_enter Tryz.func23,Tryz.ntmps23
  go_wp2
  go_quiet (fail)
  go_wp2
  go_ret2
  exact ⟨HX.out _ _ rfl,grown_drewN (grown_refl _ _) _⟩
def NbPost (A:Nat→Addr) (l:List Nat) (e:Ending):Prop :=
 if l.length=16 then e=.returned (.tuple #[.string (strOf (hexL l)),.nilIface]) else e=.returned (.tuple #[.string ⟨#[]⟩,errV A 4])
theorem number16_any (A:Nat→Addr) (v:Value) (l:List Nat) (w:World) (hB:Bytes w v l) (hl:l.length≤1099511620000) (hE:AllErrs w A) :
  Calls Tryz.prog 41 #[v] w fun e w'=>NbPost A l e∧w.grownBy w' none:=by
 have HED:Hid (∀ W,w.grownBy W none→W.cell? ⟨0,0,none⟩=some (errV A 4)):=hid (fun W hW=>by
  have e4:=errs_at (hE.grown hW) 4 (by decide)
  simp only[errVars,List.getD_cons_zero,List.getD_cons_succ,Nat.add_one_sub_one] at e4
  exact e4)
 have HB:=hid hB
 obtain ⟨_,va,vsb,vso,vc,rfl,_⟩:=hB
 obtain ⟨n,hn⟩:∃ n,n=l.length:=⟨_,rfl⟩
 have HN:=hid hn
 rw[←hn] at HB hl ⊢
 clear hE hn
 by_cases h16:n=16
 ·subst h16
  have HX:Hid (∀ e,e=Ending.returned (.tuple #[.string (strOf (hexL l)),.nilIface])→NbPost A l e):=hid (fun e h=>by unfold NbPost;rw[if_pos HN.out.symm];exact h)
  obtain ⟨d,hd⟩:∃ d,d=l++List.replicate 16 0:=⟨_,rfl⟩
  have hdl:d.length=32:=by rw[hd,List.length_append,←HN.out];rfl
  have hdt:∀ x∈d,x<256:=by
   rw[hd]
   intro x hx
   rcases List.mem_append.1 hx with h|h
   ·exact HB.out.lt x h
   ·rw[List.eq_of_mem_replicate h];decide
  have hd16:d.take 16=l:=by rw[hd,List.take_left' HN.out.symm]
  have HTx:=hid (text_any d hdl hdt)
  obtain ⟨X,hX⟩:∃ X,X=strOf (hexL d):=⟨_,rfl⟩
  have hs1:=id_slice d hdl X hX
  have hs2:=id_slice' d hdl X hX
  rw[hd16] at hs1 hs2
  rw[←hX] at HTx
  obtain ⟨Y,hY⟩:∃ Y,Y=strOf (hexL l):=⟨_,rfl⟩
  rw[←hY] at hs1 hs2 HX
  obtain ⟨D,hD⟩:∃ D,D=bytesV d:=⟨_,rfl⟩
  have hDl:D.size=32:=by rw[hD,bytesV_size,hdl]
  have HI:Hid ((Tryz.prog.info? 135).map (·.size)=some D.size):=by rw[hDl];exact hid (by kernel_rfl)
  have HDd:Hid (bytesV (l++(List.replicate 32 0).drop l.length)=D):=hid (by rw[hD,hd,←HN.out];rfl)
  rw[←hD] at HTx
  have hz32:=zeros32_at w
  have hl16:l.length≤32:=by rw[←HN.out];decide
  have HL16:=hid hl16
  have hzl:(List.replicate 32 0:List Nat).length=32:=rfl
  have HZl:=hid hzl
  clear hd hdl hdt hd16 hX hY hD hDl hl16 hzl
  go_enter Tryz.func41,Tryz.ntmps41
  go_wp2_with (first
   |(refine wpList_copyB (by rfl) (.tmp 9) (.tmp 10) 27 27 (by rfl) Tryz.underlying27 (by kernel_rfl) (b:=w.heap.size) (N:=32) (Z:=List.replicate 32 0) (l:=l) (T:=135) (v:=.slice va 16 vc) (by rfl) (by rfl) (alloc_at w _) HZl.out (HB.out.grown (World.grownBy_alloc _ _ _)) HL16.out ?_;intro w2 hb2 hg2;rw[HDd.out] at hb2;have B2:=hid hb2;have G2:Hid (w.grownBy w2 none):=hid (grown_forget (World.grownBy_alloc w _ none) (Nat.le_refl _) hg2);clear hb2 hg2)
   |(refine wpList_load_row (by rfl) 135 (.tmp 4) (by rfl) w.heap.size (by rfl) _ D (0,0) _ B2.out Tryz.underlying135 (by rfl) HI.out ?_)
   |(go_at_call 90;refine (HTx.out w2).mono ?_;rintro e w3 ⟨rfl,hg3⟩;have G3:=hid hg3;clear hg3))
  go_ret2
  exact ⟨HX.out _ rfl,grown_trans G2.out G3.out⟩
 ·have HX:Hid (∀ e,e=Ending.returned (.tuple #[.string ⟨#[]⟩,errV A 4])→NbPost A l e):=hid (fun e h=>by unfold NbPost;rw[if_neg (by rw[←HN.out];exact h16)];exact h)
  have d1:((n:Int) != 16)=true:=by simp;omega
  have eF:=HED.out w (grown_refl _ _)
  go_enter Tryz.func41,Tryz.ntmps41
  go_wp2
  go_quiet (fail)
  go_wp2
  go_ret2
  exact ⟨HX.out _ rfl,grown_drewN (grown_refl _ _) _⟩
def ByPostF (A:Nat→Addr) (B:Nat) (w':World) (l:List Nat) (e:Ending):Prop :=
 if l.length=32∧hexOk l=true then e=.returned (.tuple #[.slice (some ⟨B,0,none⟩) 16 16,.nilIface])∧Bytes w' (.slice (some ⟨B,0,none⟩) 16 16) (unhex l)
 else e=.returned (.tuple #[.slice none 0 0,errV A 4])
theorem bytes_at (A:Nat→Addr) (s:ByteArray) (w:World) (hs:s.size≤1099511620000) (hE:AllErrs w A) :
  Calls Tryz.prog 23 #[.string s] w fun e w'=>ByPostF A w.heap.size w' (strL s) e∧w.grownBy w' none:=by
 have HED:Hid (∀ W,w.grownBy W none→W.cell? ⟨0,0,none⟩=some (errV A 4)):=hid (fun W hW=>by
  have e4:=errs_at (hE.grown hW) 4 (by decide)
  simp only[errVars,List.getD_cons_zero,List.getD_cons_succ,Nat.add_one_sub_one] at e4
  exact e4)
 obtain ⟨n,hn⟩:∃ n,n=s.size:=⟨_,rfl⟩
 have HN:=hid hn
 have HLn:Hid ((strL s).length=n):=hid (by rw[strL_len,hn])
 have hnn:n≤1099511620000:=by omega
 clear hE hn hs
 by_cases h32:n=32
 ·subst h32
  have hl:((s.size:Nat):Int)=32:=by have:=HN.out;omega
  have HK0:Hid (KeyW w (w.alloc (.cells zeros16 5)) []):=hid ⟨World.grownBy_alloc _ _ _,alloc_at _ _⟩
  have hmk:=make16 w
  obtain ⟨L,hL⟩:∃ L,L=strL s:=⟨_,rfl⟩
  have HIx:Hid (∀ j:Nat,j<32→∀ W,(Instr.index 9 (.string s) (.int .i64 (j:Int))).run Tryz.prog W=.ok (.int .u8 (L.getD j 0:Nat)) W):=hid (fun j hj W=>by
   have hjs:j<s.size:=by have:=HN.out;omega
   rw[run_index_string W _ s .i64 j Tryz.underlying9,dif_pos ⟨by omega,by omega⟩,hL,←strL_getD s j hjs]
   rfl)
  have HLt:Hid (∀ j:Nat,L.getD j 0<256):=hid (fun j=>getD_lt' (by rw[hL];exact strL_lt s) j)
  rw[←hL] at HLn ⊢
  have HXb:Hid (∀ e w' j,j≤32→hexOk (L.take j)=false→e=Ending.returned (.tuple #[.slice none 0 0,errV A 4])→ByPostF A w.heap.size w' L e):=hid (fun e w' j _ hj h=>by unfold ByPostF;rw[if_neg (fun h=>by rw[hexOk_pre hj] at h;cases h.2)];exact h)
  have HXg:Hid (∀ e w',hexOk L=true→(e=.returned (.tuple #[.slice (some ⟨w.heap.size,0,none⟩) 16 16,.nilIface])∧Bytes w' (.slice (some ⟨w.heap.size,0,none⟩) 16 16) (unhex L))→ByPostF A w.heap.size w' L e):=hid (fun e w' hh h=>by unfold ByPostF;rw[if_pos ⟨HLn.out,hh⟩];exact h)
  clear hL
  go_enter Tryz.func23,Tryz.ntmps23
  go_wp2
  clear hmk hl
  go_loopw [15] (fun i wr=>∃ k:Nat,k≤16∧i=.int .i64 k∧hexOk (L.take (2*k))=true∧KeyW w wr (unhex (L.take (2*k)))) (fun i _=>16-(intOf i).toNat)
  case atStart=>exact ⟨0,by omega,rfl,rfl,HK0.out⟩
  case round =>
   obtain ⟨k,hk,rfl,hok,hK⟩:=hrel
   have HOk:=hid hok
   have HKw:=hid hK
   clear hok hK
   by_cases hk16:k<16
   ·obtain ⟨c1,hc1⟩:∃ c,c=L.getD (2*k) 0:=⟨_,rfl⟩
    obtain ⟨c2,hc2⟩:∃ c,c=L.getD (2*k+1) 0:=⟨_,rfl⟩
    have hi1:=HIx.out (2*k) (by omega)
    have hi2:=HIx.out (2*k+1) (by omega)
    rw[←hc1] at hi1
    rw[←hc2] at hi2
    have e1:((2*k:Nat):Int)=2*(k:Int):=by omega
    have e2:((2*k+1:Nat):Int)=2*(k:Int)+1:=by omega
    rw[e1] at hi1
    rw[e2] at hi2
    have I1:=hid (fun W=>index_any c1 (by rw[hc1];exact HLt.out _) W)
    have I2:=hid (fun W=>index_any c2 (by rw[hc2];exact HLt.out _) W)
    have HT1:=hid (hexOk_take L (2*k) (by rw[HLn.out];omega))
    have HT2:=hid (hexOk_take L (2*k+1) (by rw[HLn.out];omega))
    have HU:Hid (unhex (L.take (2*(k+1)))=unhex (L.take (2*k))++[16*hv c1+hv c2]):=hid (by
     rw[show 2*(k+1)=2*k+2 by omega,take_two L (2*k) (by rw[HLn.out];omega),unhex_snoc _ _ _ (by rw[List.length_take,HLn.out];omega),hc1,hc2])
    rw[←hc1] at HT1
    rw[←hc2] at HT2
    clear e1 e2 hc1 hc2
    by_cases h1:hv c1<16
    ·by_cases h2:hv c2<16
     ·have x1:ixv c1=(hv c1:Int):=by rw[ixv,if_pos h1]
      have x2:ixv c2=(hv c2:Int):=by rw[ixv,if_pos h2]
      rw[x1] at I1
      rw[x2] at I2
      clear x1 x2
      generalize hv c1=a at *
      generalize hv c2=b at *
      have p1:decide ((a:Int)<0)=false:=decide_eq_false (by omega)
      have p2:decide ((b:Int)<0)=false:=decide_eq_false (by omega)
      go_wp2
      go_quiet ((go_at_call 63;first|exact Calls.quiet_of_same (I1.out _)|exact Calls.quiet_of_same (I2.out _)))
      have hul:(unhex (L.take (2*k))).length=k:=by rw[unhex_len,List.length_take,HLn.out];omega
      have HKn:=hid (show KeyW w (wr.drewN nq) (unhex (L.take (2*k))) from ⟨grown_drewN HKw.out.grown _,HKw.out.blk⟩)
      have hset:=HKn.out.set (by rw[hul];exact hk16) (16*a+b)
      rw[hul] at hset
      have HSet:=hid hset
      have hz:=cell_blk HKw.out.blk k (by have:=bytesV_zero 16 (unhex (L.take (2*k))) (by rw[hul];exact hk16);rwa [hul] at this ⊢)
      have hf:=free_blk HKw.out.blk k
      have hor:=or_hex a b h1 h2
      have HOr:=hid hor
      have hwu:((16*a+b:Nat):Int)%256=((16*a+b:Nat):Int):=by omega
      obtain ⟨y,hy⟩:∃ y,y=16*a+b:=⟨_,rfl⟩
      have hy256:y<256:=by omega
      rw[←hy] at HSet HU hor hwu
      have HOk2:Hid (hexOk (L.take (2*(k+1)))=true):=hid (by
       rw[show 2*(k+1)=2*k+1+1 by omega,HT2.out,HT1.out,HOk.out]
       simp[h1,h2])
      clear hy hset hul HOr hwu
      go_wp2
      go_roundw
      case rel=>exact ⟨k+1,by omega,by go_num,HOk2.out,by rw[HU.out];exact HSet.out⟩
      case measure=>simp[intOf];omega
     ·have x1:ixv c1=(hv c1:Int):=by rw[ixv,if_pos h1]
      have x2:ixv c2=-1:=by rw[ixv,if_neg h2]
      rw[x1] at I1
      rw[x2] at I2
      have HBad:Hid (hexOk (L.take (2*k+1+1))=false):=hid (by
       rw[HT2.out]
       simp[h2])
      clear x1 x2
      generalize hv c1=a at *
      have p1:decide ((a:Int)<0)=false:=decide_eq_false (by omega)
      have eF:=HED.out wr HKw.out.grown
      go_wp2
      go_quiet ((go_at_call 63;first|exact Calls.quiet_of_same (I1.out _)|exact Calls.quiet_of_same (I2.out _)))
      go_wp2
      go_quiet (fail)
      go_wp2
      go_ret2
      exact ⟨HXb.out _ _ _ (by omega) HBad.out rfl,grown_drewN (grown_drewN HKw.out.grown _) _⟩
    ·have x1:ixv c1=-1:=by rw[ixv,if_neg h1]
     rw[x1] at I1
     have HBad:Hid (hexOk (L.take (2*k+1))=false):=hid (by
      rw[HT1.out]
      simp[h1])
     clear x1
     generalize ixv c2=b at *
     have eF:=HED.out wr HKw.out.grown
     go_wp2
     go_quiet ((go_at_call 63;first|exact Calls.quiet_of_same (I1.out _)|exact Calls.quiet_of_same (I2.out _)))
     go_wp2
     go_quiet (fail)
     go_wp2
     go_ret2
     exact ⟨HXb.out _ _ _ (by omega) HBad.out rfl,grown_drewN (grown_drewN HKw.out.grown _) _⟩
   ·obtain rfl:k=16:=by omega
    have htk:L.take (2*16)=L:=List.take_of_length_le (by rw[HLn.out];decide)
    have hok:=HOk.out
    have hK:=HKw.out.blk
    rw[htk] at hok hK
    have hul:(unhex L).length=16:=by rw[unhex_len,HLn.out]
    have HBy:Hid (Bytes wr (.slice (some ⟨w.heap.size,0,none⟩) 16 16) (unhex L)):=hid (by
     have:=Bytes.lit (w:=wr) (g:=w.heap.size) (l:=unhex L) (t:=5) (fr:=(0,0)) (by rw[hul] at hK;simpa [bytesV,cellsL] using hK) (unhex_lt L hok)
     rwa [hul] at this)
    have HOk3:=hid hok
    clear hok hK hul htk
    go_wp2
    go_ret2
    exact ⟨HXg.out _ _ HOk3.out ⟨rfl,HBy.out⟩,HKw.out.grown⟩
 ·have HX:Hid (∀ e w',e=Ending.returned (.tuple #[.slice none 0 0,errV A 4])→ByPostF A w.heap.size w' (strL s) e):=hid (fun e w' h=>by unfold ByPostF;rw[if_neg (by rw[HLn.out];exact fun h=>h32 h.1)];exact h)
  have d1:(((s.size:Nat):Int) != 32)=true:=by have:=HN.out;simp;omega
  have eF:=HED.out w (grown_refl _ _)
  go_enter Tryz.func23,Tryz.ntmps23
  go_wp2
  go_quiet (fail)
  go_wp2
  go_ret2
  exact ⟨HX.out _ _ rfl,grown_drewN (grown_refl _ _) _⟩
end Go.Proofs.YtjjbkpjjmbfdhaaGreatDoor
namespace Go.Proofs.YtjjbkpjjmbfdhaaGreatDoor
open Lib (hid)
namespace Bu
structure An where
 g:Int
 k:ByteArray
 f:Int
 t:Int
def an0:An:=⟨0,⟨#[]⟩,0,0⟩
structure Bd where
 v:Int
 sp:ByteArray
 l:List An
def okKey (k:ByteArray):Bool:=decide ((strL k).length=32)&&hexOk (strL k)
def okAn (a:An):Bool:=okKey a.k&&(decide (1≤a.g∧a.g≤1048576)&&decide (0≤a.f∧a.f≤a.t∧a.t≤253402300799))
def okAt (dn:List An) (a:An):Bool:=okAn a&&dn.all (fun b=>decide (b.g<a.g)&&decide (b.k≠a.k))
def docA:List An→List An→Bool
 |_,[]=>true
 |dn,a :: r=>okAt dn a&&docA (dn++[a]) r
def okL (l:List An):Bool:=decide (1≤l.length∧l.length≤8)&&docA [] l
def right (b:Bd):Bool:=decide (1≤b.v∧b.v≤1099511627776)&&(Pt.label (strL b.sp)&&okL b.l)
theorem take_snoc {l:List An} {j:Nat} (h:j<l.length):l.take (j+1)=l.take j++[l.getD j an0]:=by
 rw[List.take_succ_eq_append_getElem h,List.getD_eq_getElem?_getD,List.getElem?_eq_getElem h];rfl
theorem drop_cons {l:List An} {j:Nat} (h:j<l.length):l.drop j=l.getD j an0 :: l.drop (j+1):=by
 rw[List.drop_eq_getElem_cons h,List.getD_eq_getElem?_getD,List.getElem?_eq_getElem h];rfl
theorem docA_step {l:List An} {j:Nat} (h:j<l.length):docA (l.take j) (l.drop j)=(okAt (l.take j) (l.getD j an0)&&docA (l.take (j+1)) (l.drop (j+1))):=by
 rw[drop_cons h,docA,take_snoc h]
theorem docA_end (l:List An):docA (l.take l.length) (l.drop l.length)=true:=by rw[List.drop_length];rfl
theorem docA_start (l:List An):docA (l.take 0) (l.drop 0)=docA [] l:=by simp
def lastG (l:List An) (j:Nat):Int:=if j=0 then 0 else (l.getD (j-1) an0).g
def Upok (l:List An) (j:Nat):Prop:=∀ i,i<j→okAt (l.take i) (l.getD i an0)=true
theorem mem_take_at {l:List An} {j:Nat} {b:An} (hj:j≤l.length) (h:b∈l.take j):∃ i,i<j∧b=l.getD i an0:=by
 obtain ⟨i,hi,rfl⟩:=List.mem_iff_getElem.1 h
 rw[List.length_take] at hi
 refine ⟨i,by omega,?_⟩
 rw[List.getElem_take,List.getD_eq_getElem?_getD,List.getElem?_eq_getElem (by omega)]
 rfl
theorem at_mem_take {l:List An} {i j:Nat} (hi:i<j) (hj:j≤l.length):l.getD i an0∈l.take j:=by
 have e:(l.take j)[i]?=some (l.getD i an0):=by
  rw[List.getElem?_take,if_pos hi,List.getD_eq_getElem?_getD,List.getElem?_eq_getElem (by omega)];rfl
 exact List.mem_of_getElem? e
theorem okAn_pos {a:An} (h:okAn a=true):1≤a.g:=by
 unfold okAn at h
 simp only[Bool.and_eq_true,decide_eq_true_eq] at h
 exact h.2.1.1
theorem Upok.rise {l:List An} {j:Nat} (h:Upok l j) (hj:j≤l.length):∀ i,i<j→(l.getD i an0).g≤lastG l j:=by
 intro i hi
 unfold lastG
 rw[if_neg (by omega)]
 rcases Nat.lt_or_ge i (j-1) with h1|h1
 ·have hk:=h (j-1) (by omega)
  unfold okAt at hk
  rw[Bool.and_eq_true,List.all_eq_true] at hk
  have:=hk.2 _ (at_mem_take h1 (by omega))
  simp only[Bool.and_eq_true,decide_eq_true_eq] at this
  exact Int.le_of_lt this.1
 ·obtain rfl:i=j-1:=by omega
  exact Int.le_refl _
theorem okAt_prog {l:List An} {j:Nat} (h:Upok l j) (hj:j<l.length):okAt (l.take j) (l.getD j an0)=(okAn (l.getD j an0)&&(decide (lastG l j<(l.getD j an0).g)&&(l.take j).all (fun b=>decide (b.k≠(l.getD j an0).k)))):=by
 rw[Bool.eq_iff_iff]
 unfold okAt
 simp only[Bool.and_eq_true,List.all_eq_true,decide_eq_true_eq]
 constructor
 ·rintro ⟨h1,h2⟩
  refine ⟨h1,?_,fun b hb=>(h2 b hb).2⟩
  unfold lastG
  by_cases h0:j=0
  ·rw[if_pos h0];have:=okAn_pos h1;omega
  ·rw[if_neg h0]
   exact (h2 _ (at_mem_take (by omega) (by omega))).1
 ·rintro ⟨h1,h2,h3⟩
  refine ⟨h1,fun b hb=>⟨?_,h3 b hb⟩⟩
  obtain ⟨i,hi,rfl⟩:=mem_take_at (by omega) hb
  have:=h.rise (by omega) i hi
  omega
theorem Upok.succ {l:List An} {j:Nat} (h:Upok l j) (h1:okAt (l.take j) (l.getD j an0)=true):Upok l (j+1):=fun i hi=>by
 rcases Nat.lt_or_ge i j with h2|h2
 ·exact h i h2
 ·obtain rfl:i=j:=by omega
  exact h1
theorem docA_upok:∀ (n:Nat) (l:List An) (j:Nat),l.length-j=n→j≤l.length→docA (l.take j) (l.drop j)=true→∀ i,j≤i→i<l.length→okAt (l.take i) (l.getD i an0)=true
 |0,l,j,hn,hj,_,i,h1,h2=>by omega
 |n+1,l,j,hn,hj,h,i,h1,h2=>by
  rw[docA_step (by omega),Bool.and_eq_true] at h
  rcases Nat.eq_or_lt_of_le h1 with rfl|h3
  ·exact h.1
  ·exact docA_upok n l (j+1) (by omega) (by omega) h.2 i (by omega) h2
theorem okL_rise {l:List An} (h:okL l=true):l.Pairwise (fun a b=>a.g<b.g):=by
 unfold okL at h
 rw[Bool.and_eq_true] at h
 have hk:=docA_upok l.length l 0 (by omega) (by omega) (by rw[docA_start];exact h.2)
 rw[List.pairwise_iff_getElem]
 intro i j hi hj hij
 have:=hk j (by omega) hj
 unfold okAt at this
 rw[Bool.and_eq_true,List.all_eq_true] at this
 have h2:=this.2 _ (at_mem_take hij (by omega))
 simp only[Bool.and_eq_true,decide_eq_true_eq] at h2
 have e:∀ q (hq:q<l.length),l.getD q an0=l[q]:=fun q hq=>by rw[List.getD_eq_getElem?_getD,List.getElem?_eq_getElem hq];rfl
 rw[e i hi,e j hj] at h2
 exact h2.1
theorem perm_rise:∀ {l m:List An},l.Perm m→l.Pairwise (fun a b=>a.g<b.g)→m.Pairwise (fun a b=>a.g≤b.g)→l=m
 |[],m,hp,_,_=>(List.nil_perm.1 hp).symm ▸ rfl
 |a :: l,m,hp,hl,hm=>by
  match m,hp,hm with
  |[],hp,_=>exact absurd hp (by simp)
  |b :: m,hp,hm =>
   rw[List.pairwise_cons] at hl hm
   have hab:a=b:=by
    have h1:a∈b :: m:=hp.mem_iff.1 (by simp)
    have h2:b∈a :: l:=hp.mem_iff.2 (by simp)
    rcases List.mem_cons.1 h2 with h2|h2
    ·exact h2.symm
    ·rcases List.mem_cons.1 h1 with h1|h1
     ·exact h1
     ·have k1:=hl.1 b h2
      have k2:=hm.1 a h1
      omega
   subst hab
   rw[perm_rise (List.perm_cons a |>.1 hp) hl.2 hm.2]
theorem okL_perm {l m:List An} (hp:l.Perm m) (hl:l.Pairwise (fun a b=>a.g≤b.g)) (hm:m.Pairwise (fun a b=>a.g≤b.g)):okL l=okL m∧(okL l=true→l=m):=by
 have h1:okL l=true→l=m:=fun h=>perm_rise hp (okL_rise h) hm
 have h2:okL m=true→m=l:=fun h=>perm_rise hp.symm (okL_rise h) hl
 refine ⟨?_,h1⟩
 cases hx:okL l with
 |true=>rw[←h1 hx];exact hx.symm
 |false =>
  cases hy:okL m with
  |true=>rw[h2 hy] at hy;rw[hy] at hx;exact hx.symm ▸ rfl
  |false=>rfl
def place (a:An):List An→Nat→Nat
 |l,0=>0
 |l,k+1=>if a.g<(l.getD k an0).g then place a l k else k+1
def ins (l:List An) (a:An):List An:=l.take (place a l l.length)++a :: l.drop (place a l l.length)
def srt (l:List An):List An:=l.foldl ins []
theorem place_le (a:An) (l:List An):∀ k,place a l k≤k
 |0=>Nat.le_refl _
 |k+1=>by
  rw[place]
  split
  ·exact Nat.le_succ_of_le (place_le a l k)
  ·exact Nat.le_refl _
theorem ins_perm (l:List An) (a:An):(ins l a).Perm (l++[a]):=by
 unfold ins
 have h1:(l.take (place a l l.length)++a :: l.drop (place a l l.length)).Perm (a :: (l.take (place a l l.length)++l.drop (place a l l.length))):=List.perm_middle
 rw[List.take_append_drop] at h1
 exact h1.trans (List.perm_append_comm (l₁:=[a]) (l₂:=l))
theorem foldl_perm:∀ (l d:List An),(l.foldl ins d).Perm (d++l)
 |[],d=>by simp
 |a :: l,d=>by
  rw[List.foldl_cons]
  refine (foldl_perm l (ins d a)).trans ?_
  have:=(ins_perm d a).append_right l
  simpa using this
theorem srt_perm (l:List An):(srt l).Perm l:=foldl_perm l []
theorem place_up (a:An) (l:List An):∀ k,k≤l.length→∀ i,place a l k≤i→i<k→a.g<(l.getD i an0).g
 |0,_,i,_,h=>absurd h (Nat.not_lt_zero _)
 |k+1,hk,i,h1,h2=>by
  rw[place] at h1
  by_cases h:a.g<(l.getD k an0).g
  ·rw[if_pos h] at h1
   rcases Nat.lt_or_ge i k with h3|h3
   ·exact place_up a l k (by omega) i h1 h3
   ·obtain rfl:i=k:=by omega
    exact h
  ·rw[if_neg h] at h1;omega
theorem place_low (a:An) (l:List An):∀ k,0<place a l k→(l.getD (place a l k-1) an0).g≤a.g
 |0,h=>absurd h (by simp[place])
 |k+1,h=>by
  rw[place] at h ⊢
  by_cases h1:a.g<(l.getD k an0).g
  ·rw[if_pos h1] at h ⊢
   exact place_low a l k h
  ·rw[if_neg h1]
   show (l.getD (k+1-1) an0).g≤a.g
   rw[Nat.add_sub_cancel];omega
theorem ins_rise {l:List An} {a:An} (h:l.Pairwise (fun a b=>a.g≤b.g)):(ins l a).Pairwise (fun a b=>a.g≤b.g):=by
 have hpl:=place_le a l l.length
 have hup:=place_up a l l.length (Nat.le_refl _)
 have hlow:=place_low a l l.length
 unfold ins
 generalize place a l l.length=p at *
 have e:∀ q (hq:q<l.length),l.getD q an0=l[q]:=fun q hq=>by rw[List.getD_eq_getElem?_getD,List.getElem?_eq_getElem hq];rfl
 have hlo:∀ b∈l.take p,b.g≤a.g:=fun b hb=>by
  obtain ⟨i,hi,rfl⟩:=mem_take_at hpl hb
  have h1:=hlow (by omega)
  rcases Nat.lt_or_ge i (p-1) with h2|h2
  ·have h3:=List.pairwise_iff_getElem.1 h i (p-1) (by omega) (by omega) h2
   rw[e _ (by omega)] at h1 ⊢
   omega
  ·obtain rfl:i=p-1:=by omega
   exact h1
 have hhi:∀ b∈l.drop p,a.g≤b.g:=fun b hb=>by
  obtain ⟨i,hi,rfl⟩:=List.mem_iff_getElem.1 hb
  rw[List.length_drop] at hi
  have h1:=hup (p+i) (by omega) (by omega)
  rw[e _ (by omega)] at h1
  rw[List.getElem_drop]
  omega
 have h0:=h
 rw[←List.take_append_drop p l,List.pairwise_append] at h0
 rw[List.pairwise_append,List.pairwise_cons]
 refine ⟨h0.1,⟨hhi,h0.2.1⟩,fun b hb c hc=>?_⟩
 rcases List.mem_cons.1 hc with rfl|hc
 ·exact hlo b hb
 ·exact h0.2.2 b hb c hc
theorem foldl_rise:∀ (l d:List An),d.Pairwise (fun a b=>a.g≤b.g)→(l.foldl ins d).Pairwise (fun a b=>a.g≤b.g)
 |[],d,h=>h
 |a :: l,d,h=>foldl_rise l (ins d a) (ins_rise h)
theorem srt_rise (l:List An):(srt l).Pairwise (fun a b=>a.g≤b.g):=foldl_rise l [] List.Pairwise.nil
def nxt (b:Bd) (l:List An):Bd:=⟨b.v+1,b.sp,l⟩
def bd0:Bd:=⟨0,⟨#[]⟩,[]⟩
def next (b:Bd) (l:List An):Nat×Bd:=if right (nxt b l)=true then (0,nxt b l) else (4,bd0)
def clash (b:Bd) (a:An):Bool:=b.l.any (fun x=>decide (x.g=a.g)||decide (x.k=a.k))
def withA (b:Bd) (a:An):Nat×Bd:=if clash b a=true then (19,bd0) else next b (srt (b.l++[a]))
def firstG (g:Int):List An→Option Nat
 |[]=>none
 |a :: r=>if a.g=g then some 0 else (firstG g r).map (· + 1)
def without (b:Bd) (g:Int):Nat×Bd:=match firstG g b.l with
 |none=>(18,bd0)
 |some i=>next b (b.l.take i++b.l.drop (i+1))
end Bu
end Go.Proofs.YtjjbkpjjmbfdhaaGreatDoor
namespace Go.Proofs.YtjjbkpjjmbfdhaaGreatDoor
open Lib (hid)
open Go.RowKit
namespace Bu
def An.cs (a:An):List Value:=[.int .i64 a.g,.string a.k,.int .i64 a.f,.int .i64 a.t]
def An.val (a:An):Value:=.agg #[.int .i64 a.g,.string a.k,.int .i64 a.f,.int .i64 a.t]
def cellsA:List An→List Value
 |[]=>[]
 |a :: r=>a.cs++cellsA r
theorem cellsA_len:∀ (l:List An),(cellsA l).length=l.length*4
 |[]=>rfl
 |a :: r=>by rw[cellsA,List.length_append,cellsA_len r,List.length_cons];simp[An.cs];omega
theorem cellsA_app:∀ (l m:List An),cellsA (l++m)=cellsA l++cellsA m
 |[],m=>rfl
 |a :: r,m=>by rw[List.cons_append,cellsA,cellsA_app r m,cellsA,List.append_assoc]
theorem cellsA_one:∀ (l:List An),∀ u∈cellsA l,u.oneCell'=true
 |[],u,h=>by cases h
 |a :: r,u,h=>by
  rw[cellsA] at h
  rcases List.mem_append.1 h with h|h
  ·simp[An.cs] at h
   rcases h with rfl|rfl|rfl|rfl <;> rfl
  ·exact cellsA_one r u h
theorem cellsA_at:∀ (l:List An) (i:Nat),i<l.length→(cellsA l)[i*4]?=some (.int .i64 (l.getD i an0).g)∧(cellsA l)[i*4+1]?=some (.string (l.getD i an0).k)∧(cellsA l)[i*4+2]?=some (.int .i64 (l.getD i an0).f)∧(cellsA l)[i*4+3]?=some (.int .i64 (l.getD i an0).t)
 |a :: r,0,_=>⟨rfl,rfl,rfl,rfl⟩
 |a :: r,i+1,h=>by
  obtain ⟨h1,h2,h3,h4⟩:=cellsA_at r i (by simpa using h)
  have e:∀ q,(cellsA (a :: r))[(i+1)*4+q]?=(cellsA r)[i*4+q]?:=fun q=>by
   rw[cellsA,show (i+1)*4+q=a.cs.length+(i*4+q) by simp[An.cs];omega,List.getElem?_append_right (by omega),Nat.add_sub_cancel_left]
  exact ⟨(e 0).trans h1,(e 1).trans h2,(e 2).trans h3,(e 3).trans h4⟩
theorem cellsA_drop:∀ (l:List An) (k:Nat),(cellsA l).drop (k*4)=cellsA (l.drop k)
 |[],k=>by simp[cellsA]
 |a :: r,0=>by simp
 |a :: r,k+1=>by
  rw[List.drop_succ_cons,cellsA,show (k+1)*4=a.cs.length+k*4 by simp[An.cs];omega,List.drop_length_add_append,cellsA_drop r k]
end Bu
open Bu
def Ans (w:World) (v:Value) (l:List An):Prop:=RowV w v 4 l.length (cellsA l)∧Whole0 v
theorem Ans.grown {w w':World} {v:Value} {l:List An} (h:Ans w v l) (hg:w.grownBy w' none):Ans w' v l:=⟨h.1.grown hg,h.2⟩
theorem Ans.form {w:World} {v:Value} {l:List An} (h:Ans w v l):∃ (a:Option Addr) (g o c:Nat),v=.slice a l.length c∧(0<l.length→a=some ⟨g,o,none⟩∧g<w.heap.size)∧(a=none→c=0)∧∀ i,i<l.length →
  w.cell? ⟨g,o+i*4,none⟩=some (.int .i64 (l.getD i an0).g)∧w.cell? ⟨g,o+i*4+1,none⟩=some (.string (l.getD i an0).k)∧w.cell? ⟨g,o+i*4+2,none⟩=some (.int .i64 (l.getD i an0).f)∧w.cell? ⟨g,o+i*4+3,none⟩=some (.int .i64 (l.getD i an0).t):=by
 obtain ⟨⟨_,a,g,o,c,rfl,h2,h3⟩,h0⟩:=h
 refine ⟨a,g,o,c,rfl,h2,fun e=>?_,fun i hi=>?_⟩
 ·subst e;exact (h0 _ _ rfl).2
 ·obtain ⟨k1,k2,k3,k4⟩:=cellsA_at l i hi
  exact ⟨h3 _ _ k1,h3 _ _ k2,h3 _ _ k3,h3 _ _ k4⟩
theorem Ans.nil (w:World):Ans w (.slice none 0 0) []:=⟨⟨rfl,none,0,0,0,rfl,fun h=>absurd h (Nat.lt_irrefl _),fun j v h=>by cases h⟩,fun n c e=>by cases e;exact ⟨rfl,rfl⟩⟩
theorem Ans.own {w:World} {base:Nat} {e:TypeId} {v:Value} {n:Nat} {l:List An} (h:w.ownsRow base e 4 v n (cellsA l)):n=l.length∧Ans w v l:=by
 have hn:n=l.length:=by have:=h.1;rw[cellsA_len] at this;omega
 subst hn
 obtain ⟨a,g,c,rfl,_,_,h0,_,h2⟩:=own_formN h
 refine ⟨rfl,⟨cellsA_len l,a,g,0,c,rfl,fun hp=>⟨(h2 hp).1,(h2 hp).2.1⟩,fun j v hj=>?_⟩,fun n' c' e=>?_⟩
 ·have hp:0<l.length:=by
   rcases Nat.eq_zero_or_pos l.length with h9|h9
   ·rw[List.length_eq_zero_iff.1 h9] at hj;cases hj
   ·exact h9
  rw[Nat.zero_add]
  exact (h2 hp).2.2.1 j v hj
 ·simp only[Value.slice.injEq] at e
  obtain ⟨rfl,rfl,rfl⟩:=e
  exact h0 rfl
theorem Ans.from {w:World} {a:Option Addr} {c:Nat} {l:List An} (h:Ans w (.slice a l.length c) l) (k:Nat) (hk:k<l.length):∃ g o,a=some ⟨g,o,none⟩∧Ans w (.slice (some ⟨g,o+k*4,none⟩) (l.length-k) (c-k)) (l.drop k):=by
 obtain ⟨⟨_,a',g,o,c',e,h2,h3⟩,h0⟩:=h
 simp only[Value.slice.injEq,true_and] at e
 obtain ⟨rfl,rfl⟩:=e
 obtain ⟨rfl,hg⟩:=h2 (by omega)
 refine ⟨g,o,rfl,⟨by rw[cellsA_len,List.length_drop],some ⟨g,o+k*4,none⟩,g,o+k*4,c-k,by rw[List.length_drop],fun _=>⟨rfl,hg⟩,fun j v hj=>?_⟩,Whole0.some _ _ _⟩
 rw[←cellsA_drop,List.getElem?_drop] at hj
 have:=h3 _ _ hj
 rw[show o+k*4+j=o+(k*4+j) by omega]
 exact this
theorem hold_b3 {w w':World} {b:Nat} {o:Obj} (h:w.heap[b]?=some o) (hg:w.grownBy w' none):w'.heap[b]?=some o:=(hg.block b (blk_lt h) (by simp)).trans h
def bval (v:Int) (sp:ByteArray) (a:Value):Value:=.agg #[.int .i64 v,.string sp,a]
end Go.Proofs.YtjjbkpjjmbfdhaaGreatDoor
namespace Go.Proofs.YtjjbkpjjmbfdhaaGreatDoor
open Lib (hid)
def isD (b:Bu.Bd) (v:Value) (w:World):Prop:=∃ q,v=.agg #[.int .i64 b.v,.string b.sp,q]∧Ans w q b.l
theorem stays_isD (b:Bu.Bd):Stays (isD b):=fun v w w' hg h=>by
 obtain ⟨q,h1,h2⟩:=h
 exact ⟨q,h1,h2.grown hg⟩
def isIz (l:List Int) (v:Value) (w:World):Prop:=Ints w v l
theorem stays_isIz (l:List Int):Stays (isIz l):=fun v w w' hg h=>Ints.grown h hg
end Go.Proofs.YtjjbkpjjmbfdhaaGreatDoor
