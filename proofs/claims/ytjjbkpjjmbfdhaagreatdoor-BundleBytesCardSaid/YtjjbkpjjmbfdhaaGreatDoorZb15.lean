import Derived.Test.YtjjbkpjjmbfdhaaGreatDoorZb01
import Derived.Test.YtjjbkpjjmbfdhaaGreatDoorZb09
import Derived.Test.YtjjbkpjjmbfdhaaGreatDoorZb13
import Derived.Test.YtjjbkpjjmbfdhaaGreatDoorRows
import Derived.WalkKit
import Derived.WalkSpells
import Derived.WalkLawsBesides
import Derived.Deep.QuietTactic
import Derived.BigQuiet
import Derived.Lib.Hide
import Derived.LoopTactic
import Derived.Deep.DeepCutAuto
set_option linter.unusedVariables false
set_option linter.unusedSimpArgs false
set_option maxRecDepth 100000
set_option maxHeartbeats 1000000
namespace Go.Proofs.YtjjbkpjjmbfdhaaGreatDoor
open Lib (hid)
open Go.RowKit
theorem bytesV_mem (ws:List Nat):∀ v∈(bytesV ws).toList,v.oneCell'=true:=by
 intro v hv
 simp only[bytesV,List.mem_map] at hv
 obtain ⟨x,_,rfl⟩:=hv
 rfl
theorem bytesV_set (T:Nat) (d:List Nat) (x:Nat) (h:d.length<T) :
  (bytesV (d++List.replicate (T-d.length) 0)).setIfInBounds d.length (.int .u8 (x:Int))=bytesV ((d++[x])++List.replicate (T-(d++[x]).length) 0):=by
 obtain ⟨m,hm⟩:∃ m,T-d.length=m+1:=⟨T-d.length-1,by omega⟩
 have e:T-(d++[x]).length=m:=by simp;omega
 rw[e,hm]
 simp[bytesV,List.replicate_succ]
theorem bytesV_zero (T:Nat) (d:List Nat) (h:d.length<T):(bytesV (d++List.replicate (T-d.length) 0))[d.length]?=some (.int .u8 0):=by
 obtain ⟨m,hm⟩:∃ m,T-d.length=m+1:=⟨T-d.length-1,by omega⟩
 rw[hm]
 simp[bytesV,List.replicate_succ]
theorem run_index_agg {P:Program} (w:World) (t e n:Nat) (cs:Array Value) (k:IntKind) (i:Nat) (v:Value) (hu:P.underlying t=some (.array n e)) (hagg:∀ w,(isAgg e).run P w=.ok false w) (hsz:∀ w,(sizeOf e).run P w=.ok 1 w)
  (hi:i<n) (hv:cs[i]?=some v):(Instr.index t (.agg cs) (.int k (i:Int))).run P w=.ok v w:=by
 simp[Instr.index,run_underlying hu,part,asIntOf,Sem.run_bind,hagg,hsz,hi,hv,Result.andThen]
def zeros32:Array Value:=bytesV (List.replicate 32 0)
theorem zeros32_at (_w:World):∀ w,(zeroValue 135).run Tryz.prog w=.ok (.agg zeros32) w:=fun _=>by kernel_rfl
def fig (n:Nat):Nat:=if n<10 then 48+n else 87+n
def hexL:List Nat→List Nat
 |[]=>[]
 |b :: r=>fig (b/16) :: fig (b%16) :: hexL r
theorem hexL_append (a b:List Nat):hexL (a++b)=hexL a++hexL b:=by
 induction a with
 |nil=>rfl
 |cons x r ih=>simp[hexL,ih]
theorem hexL_len (l:List Nat):(hexL l).length=2*l.length:=by
 induction l with
 |nil=>rfl
 |cons x r ih=>simp[hexL,ih];omega
theorem fig_lt {n:Nat} (h:n<16):fig n<256:=by unfold fig;split <;> omega
theorem hexL_lt {l:List Nat} (h:∀ x∈l,x<256):∀ x∈hexL l,x<256:=by
 induction l with
 |nil=>intro x hx;simp[hexL] at hx
 |cons y r ih =>
  intro x hx
  have hy:=h y (by simp)
  simp only[hexL,List.mem_cons] at hx
  rcases hx with rfl|rfl|hx
  ·exact fig_lt (by omega)
  ·exact fig_lt (by omega)
  ·exact ih (fun z hz=>h z (by simp[hz])) x hx
theorem hexL_take {l:List Nat} {k:Nat} (h:k<l.length):hexL (l.take (k+1))=hexL (l.take k)++[fig (l.getD k 0/16),fig (l.getD k 0%16)]:=by
 rw[List.take_add_one,List.getElem?_eq_getElem h,hexL_append]
 simp[hexL,List.getD_eq_getElem?_getD,List.getElem?_eq_getElem h]
def figS:ByteArray:=⟨#[48,49,50,51,52,53,54,55,56,57,97,98,99,100,101,102]⟩
theorem figS_at (w:World) (x:Nat) (hx:x<16) (k:IntKind):(Instr.index 9 (.string figS) (.int k (x:Int))).run Tryz.prog w=.ok (.int .u8 (fig x:Nat)) w:=by
 rw[run_index_string w _ figS k x Tryz.underlying9,dif_pos ⟨by omega,by show (x:Int)<16;omega⟩]
 congr 2
 match x,hx with
 |0,_=>rfl
 |1,_=>rfl
 |2,_=>rfl
 |3,_=>rfl
 |4,_=>rfl
 |5,_=>rfl
 |6,_=>rfl
 |7,_=>rfl
 |8,_=>rfl
 |9,_=>rfl
 |10,_=>rfl
 |11,_=>rfl
 |12,_=>rfl
 |13,_=>rfl
 |14,_=>rfl
 |15,_=>rfl
 |n+16,h=>omega
def zeros64:Array Value:=bytesV (List.replicate 64 0)
structure TxtW (w wr:World) (d done:List Nat):Prop where
 grown:w.grownBy wr none
 blk:wr.heap[w.heap.size+1]?=some (.cells (bytesV (done++List.replicate (64-done.length) 0)) 174 (0,0))
theorem TxtW.set {w wr:World} {d done:List Nat} (h:TxtW w wr d done) (hd:done.length<64) (x:Nat):TxtW w (wr.setCell ⟨w.heap.size+1,done.length,none⟩ (.int .u8 (x:Int))) d (done++[x]) :=
 ⟨grown_set h.grown (.inl (by show w.heap.size≤w.heap.size+1;omega)) _,by rw[setCell_heap h.blk,bytesV_set 64 done x hd]⟩
theorem text_any (d:List Nat) (hd:d.length=32) (hlt:∀ x∈d,x<256) (w:World) :
  Calls Tryz.prog 90 #[.agg (bytesV d)] w fun e w'=>e=.returned (.string (strOf (hexL d)))∧w.grownBy w' none:=by
 obtain ⟨V,hV⟩:∃ V,V=bytesV d:=⟨_,rfl⟩
 have hz64:∀ w,(zeroValue 174).run Tryz.prog w=.ok (.agg zeros64) w:=fun _=>by kernel_rfl
 have hix:∀ k:Nat,k<32→∀ W,(Instr.index 135 (.agg V) (.int .i64 (k:Int))).run Tryz.prog W=.ok (.int .u8 (d.getD k 0:Nat)) W:=fun k hk W=>by
  rw[hV]
  exact run_index_agg W _ 5 32 _ _ k _ Tryz.underlying135 (fun _=>by kernel_rfl) (fun _=>by kernel_rfl) hk (bytesV_at d k (by omega))
 have i32:Hid ((Tryz.prog.info? 135).map (·.size)=some V.size):=by rw[hV,bytesV_size,hd];exact hid (by kernel_rfl)
 rw[←hV]
 have HV:=hid hV
 have HIx:=hid hix
 have Hlt:=hid hlt
 have Hd:=hid hd
 have T0:Hid (TxtW w ((w.alloc (.cells V 135)).alloc (.cells zeros64 174)) d []):=hid ⟨grown_alloc (World.grownBy_alloc _ _ _) _,alloc2_new _ _ _⟩
 clear hV hix hlt hd
 go_enter Tryz.func90,Tryz.ntmps90
 go_wp2_with (refine wpList_load_row (by rfl) 135 (.tmp 1) (by rfl) w.heap.size (by rfl) _ V (0,0) _ (alloc2_old _ _ _) Tryz.underlying135 (by rfl) i32.out ?_)
 go_loopw [7] (fun i wr=>∃ k:Nat,k≤32∧i=.int .i64 k∧TxtW w wr d (hexL (d.take k))) (fun i _=>32-(intOf i).toNat)
 case atStart=>exact ⟨0,by omega,rfl,by simpa [hexL] using T0.out⟩
 case round =>
  obtain ⟨k,hk,rfl,hT⟩:=hrel
  have HT:=hid hT
  by_cases hk32:k<32
  ·have hixk:=HIx.out k hk32
   obtain ⟨x,hx⟩:∃ x,x=d.getD k 0:=⟨_,rfl⟩
   rw[←hx] at hixk
   have hx256:x<256:=by rw[hx];exact getD_lt' Hlt.out k
   have hand:bits .and .u8 (x:Int) 15=((x%16:Nat):Int):=by
    have:=u8_and_nat x 15 hx256 (by decide)
    rw[show x &&& 15=x%16 from Nat.and_two_pow_sub_one_eq_mod x 4] at this
    exact this
   have F1:∀ W,(Instr.index 9 (.string ⟨#[48,49,50,51,52,53,54,55,56,57,97,98,99,100,101,102]⟩) (.int .u8 ((x:Int)/16))).run Tryz.prog W=.ok (.int .u8 (fig (x/16):Nat)) W:=fun W=>by
    rw[show (x:Int)/16=((x/16:Nat):Int) by simp]
    exact figS_at W (x/16) (by omega) .u8
   have F2':∀ W,(Instr.index 9 (.string ⟨#[48,49,50,51,52,53,54,55,56,57,97,98,99,100,101,102]⟩) (.int .u8 (bits .and .u8 (x:Int) 15))).run Tryz.prog W=.ok (.int .u8 (fig (x%16):Nat)) W:=fun W=>by
    rw[hand]
    exact figS_at W (x%16) (by omega) .u8
   have F3:∀ W,(Instr.index 9 (.string ⟨#[48,49,50,51,52,53,54,55,56,57,97,98,99,100,101,102]⟩) (.int .u8 ((x%16:Nat):Int))).run Tryz.prog W=.ok (.int .u8 (fig (x%16):Nat)) W:=fun W=>figS_at W (x%16) (by omega) .u8
   have F4:∀ W,(Instr.index 9 (.string ⟨#[48,49,50,51,52,53,54,55,56,57,97,98,99,100,101,102]⟩) (.int .u8 ((x:Int)%16))).run Tryz.prog W=.ok (.int .u8 (fig (x%16):Nat)) W:=fun W=>by
    rw[show (x:Int)%16=((x%16:Nat):Int) by simp]
    exact figS_at W (x%16) (by omega) .u8
   have hlen:(hexL (d.take k)).length=2*k:=by rw[hexL_len,List.length_take,Hd.out];omega
   have T1:=hT.set (by rw[hlen];omega) (fig (x/16))
   have T2:=T1.set (by rw[List.length_append,hlen];simp;omega) (fig (x%16))
   rw[hlen] at T1 T2
   have hl1:(hexL (d.take k)++[fig (x/16)]).length=2*k+1:=by rw[List.length_append,hlen];rfl
   rw[hl1] at T2
   have HH:Hid (hexL (d.take (k+1))=hexL (d.take k)++[fig (x/16)]++[fig (x%16)]):=hid (by rw[hexL_take (by rw[Hd.out];exact hk32),←hx];simp)
   have c0:=cell_blk hT.blk (2*k) (by have:=bytesV_zero 64 (hexL (d.take k)) (by omega);rwa [hlen] at this ⊢)
   have f0:=free_blk hT.blk (2*k)
   have c1:=cell_blk T1.blk (2*k+1) (by have:=bytesV_zero 64 (hexL (d.take k)++[fig (x/16)]) (by omega);rwa [hl1] at this ⊢)
   have f1:=free_blk T1.blk (2*k+1)
   have HT2:=hid T2
   clear T1 T2 hT hlen hl1 hx hand F2'
   generalize fig (x/16)=y1 at *
   generalize fig (x%16)=y2 at *
   go_wp2
   go_roundw
   case rel=>exact ⟨k+1,by omega,by go_num,by rw[HH.out];exact HT2.out⟩
   case measure=>simp[intOf];omega
  ·obtain rfl:k=32:=by omega
   have hb:=hT.blk
   rw[show d.take 32=d by rw[List.take_of_length_le (by rw[Hd.out];exact Nat.le_refl _)]] at hb
   have hl:(hexL d).length=64:=by rw[hexL_len,Hd.out]
   rw[hl] at hb
   have hBy:Bytes wr (.slice (some ⟨w.heap.size+1,0,none⟩) 64 64) (hexL d):=by
    have:=Bytes.lit (w:=wr) (g:=w.heap.size+1) (l:=hexL d) (t:=174) (fr:=(0,0)) (by have:=hb;simpa [bytesV,cellsL] using this) (hexL_lt Hlt.out)
    rwa [hl] at this
   have hcv:=conv_bytes (P:=Tryz.prog) hBy 27 5 9 Tryz.underlying27 Tryz.underlying5 Tryz.underlying9
   clear hT hb hl hBy
   go_wp2
   go_ret
   exact ⟨rfl,HT.out.grown⟩
theorem hexL_take2 (l:List Nat):∀ k,hexL (l.take k)=(hexL l).take (2*k):=by
 induction l with
 |nil=>intro k;simp[hexL]
 |cons a r ih =>
  intro k
  match k with
  |0=>simp[hexL]
  |k+1 =>
   rw[show 2*(k+1)=2*k+1+1 by omega]
   simp[hexL,ih k]
theorem strOf_take (l:List Nat) (n:Nat):(strOf l).extract 0 n=strOf (l.take n):=by
 apply ByteArray.ext
 simp[strOf,ByteArray.data_extract,List.map_take]
theorem id_slice (d:List Nat) (hd:d.length=32) (X:ByteArray) (hX:X=strOf (hexL d)) (W:World):(Instr.slice 9 (.string X) none (some (.int .i64 32)) none).run Tryz.prog W=.ok (.string (strOf (hexL (d.take 16)))) W:=by
 have hs:X.size=64:=by rw[hX,strOf_size,hexL_len,hd]
 rw[run_slice_string_to_if (P:=Tryz.prog) W 9 X .i64 32 Tryz.underlying9,if_pos (by rw[hs];decide)]
 rw[hexL_take2,←strOf_take,hX]
 rfl
theorem id_slice' (d:List Nat) (hd:d.length=32) (X:ByteArray) (hX:X=strOf (hexL d)) (W:World):(Instr.sliceAt 9 (.string X) none (some (.int .i64 32)) none).run Tryz.prog W=.ok (.string (strOf (hexL (d.take 16)))) W:=by
 rw[run_sliceAt_string _ _ _ _ _ _ Tryz.underlying9]
 exact id_slice d hd X hX W
namespace Hm
end Hm
namespace Hm
end Hm
section
variable {P:Program}
theorem copy_bytes {w:World} {dT sT ty e:TypeId} (hu:P.underlying dT=some (.slice e)) (hs:(P.info? e).map (·.size)=some 1)
  {b N:Nat} {Z l:List Nat} {t:TypeId} {v:Value} (hb:w.heap[b]?=some (.cells (bytesV Z) t (0,0))) (hZ:Z.length=N) (hB:Bytes w v l) (hl:l.length≤N) :
  ∃ w',(Builtin.copy_ #[dT,sT] ty #[.slice (some ⟨b,0,none⟩) N N,v]).run P w=.ok (goInt l.length) w'∧w'.heap[b]?=some (.cells (bytesV (l++Z.drop l.length)) t (0,0))∧w.grownBy w' (some b):=by
 obtain ⟨h1,a,sb,so,c,rfl,hc,ha,hcell⟩:=hB
 rcases Nat.eq_zero_or_pos l.length with h0|h0
 ·obtain rfl:=List.eq_nil_of_length_eq_zero h0
  exact ⟨w,run_copy_none (P:=P) w dT sT ty e (some ⟨b,0,none⟩) a N N 0 c hu hs (Nat.zero_min _),by simpa using hb,grown_refl _ _⟩
 ·obtain ⟨rfl,hsb⟩:=ha h0
  have hr:=run_copy_cells (P:=P) w dT sT ty e b 0 N N ⟨sb,so,none⟩ l.length c (bytesV l).toList hu hs (by rw[Array.length_toList,bytesV_size];exact (Nat.min_eq_left hl).symm)
   (fun j u hj=>by
    have hjl:j<l.length:=by have:=(List.getElem?_eq_some_iff.1 hj).1;simpa [bytesV_size] using this
    rw[addr_addO,hcell j hjl,←bytesV_at l j hjl,←hj]
    simp)
   (fun j hj=>by
    have hjl:j<l.length:=by simpa [bytesV_size] using hj
    have hz:j<(bytesV Z).size:=by rw[bytesV_size];omega
    simp[World.cell?,hb,hz])
   (fun j _=>free_blk hb _) (bytesV_mem _)
  have e:(bytesV l).toList.length=l.length:=by rw[Array.length_toList,bytesV_size]
  have hr':=hr
  rw[show goInt (((bytesV l).toList.length:Nat):Int)=goInt (l.length:Int) by rw[e]] at hr'
  refine ⟨_,hr',?_,grown_setCells b (.inr rfl) _ _ _ (grown_refl _ _)⟩
  have:=setCells_heap (b:=b) (t:=t) (fr:=(0,0)) (bytesV l).toList [] ((bytesV Z).toList.take l.length) ((bytesV Z).toList.drop l.length) w (by simpa using hb) (by simp[bytesV];omega)
  simpa [bytesV] using this
theorem wpList_copyB {w:World} {ops:Array Oper} {rest:List Oper} {o:Oper} {a:Act} {Q:Exit→Act→World→Prop} (hgd:o.guard=none) (s x:Operand) (t u:TypeId)
  (ho:o.op=.call { callee:=.builtin .copy,args:=#[s,x],argTypes:=#[t,u] }) {e:TypeId} (hu:P.underlying t=some (.slice e)) (hs:(P.info? e).map (·.size)=some 1)
  {b N:Nat} {Z l:List Nat} {T:TypeId} {v:Value} (hd:a.eval s=.slice (some ⟨b,0,none⟩) N N) (hx:a.eval x=v) (hb:w.heap[b]?=some (.cells (bytesV Z) T (0,0))) (hZ:Z.length=N) (hB:Bytes w v l) (hl:l.length≤N)
  (h:∀ w',w'.heap[b]?=some (.cells (bytesV (l++Z.drop l.length)) T (0,0))→w.grownBy w' (some b)→wpList P ops Q rest (a.put o.dst (goInt l.length)) w'):wpList P ops Q (o :: rest) a w:=by
 obtain ⟨w',hr,k1,k2⟩:=copy_bytes (P:=P) (ty:=o.type) (sT:=u) hu hs hb hZ hB hl
 refine wpList_plain hgd fun K hK=>?_
 unfold Oper.wp execOp
 simp only[ho,resolve,invoke,builtin,Sem.run_bind,Sem.run_pure,Result.andThen_ok,List.map_toArray,List.map_cons,List.map_nil,hd,hx,hr]
 exact hK _ _ (h w' k1 k2)
end
end Go.Proofs.YtjjbkpjjmbfdhaaGreatDoor
