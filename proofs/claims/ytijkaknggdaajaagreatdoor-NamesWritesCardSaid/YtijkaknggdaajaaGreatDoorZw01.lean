import Derived.Test.YtijkaknggdaajaaGreatDoorZw00
import Derived.WalkKit
import Derived.Deep.MidRow
import Derived.Laws.AppendOwnNone
import Derived.Test.YtijkaknggdaajaaGreatDoorChecked
import Derived.BigQuiet
import Derived.Lib.RuneCount
set_option linter.unusedVariables false
set_option linter.unusedSimpArgs false
set_option maxRecDepth 100000
set_option maxHeartbeats 4000000
namespace Go.Proofs.YtijkaknggdaajaaGreatDoor
open Go.Proofs.Tryz
open Lib (hid)
open Go.RowKit
theorem zIy {k:IntKind} {a b:Int} (h:a=b):Ending.returned (.int k a)=.returned (.int k b):=by rw[h]
theorem cell_blk {w:World} {b:Nat} {cs:Array Value} {t:TypeId} {fr:Nat×Nat} (h:w.heap[b]?=some (.cells cs t fr)) (i:Nat) {v:Value} (hv:cs[i]?=some v):w.cell? ⟨b,i,none⟩=some v:=by
 simp[World.cell?,h,hv]
theorem zAh {w:World} {b:Nat} {cs:Array Value} {t:TypeId} (h:w.heap[b]?=some (.cells cs t (0,0))) (i:Nat):w.frozen? ⟨b,i,none⟩=false:=by
 simp[World.frozen?,h]
theorem zAa (w:World) (row:Option Nat):w.grownBy w row:=⟨rfl,rfl,rfl,Nat.le_refl _,fun _ _ _=>rfl⟩
theorem zAb {a b c:World} {row:Option Nat} (h:a.grownBy b row) (k:b.grownBy c row):a.grownBy c row :=
 ⟨k.os.trans h.os,k.tape.trans h.tape,k.output.trans h.output,Nat.le_trans h.size k.size,fun i hi hne=>(k.block i (Nat.lt_of_lt_of_le hi h.size) hne).trans (h.block i hi hne)⟩
theorem zAd {a b:World} {row:Option Nat} (h:a.grownBy b row) (n:Nat):a.grownBy (b.drewN n) row:=⟨h.os,h.tape,h.output,h.size,h.block⟩
theorem zDM {a b:World} {row:Option Nat} {n:Nat} (h:(a.drewN n).grownBy b row):a.grownBy b row:=⟨h.os,h.tape,h.output,h.size,h.block⟩
theorem zAc {a b:World} {row:Option Nat} (h:a.grownBy b row) (o:Obj):a.grownBy (b.alloc o) row:=zAb h (World.grownBy_alloc b o row)
theorem zAq {w w':World} {row:Option Nat} (h:w.grownBy w' row) {p:Addr} (hp:w.heap.size<=p.block∨some p.block=row) (u:Value):w.grownBy (w'.setCell p u) row :=
 ⟨h.os,h.tape,h.output,by simpa [World.setCell]using h.size,fun k hk hne=>by
  rw[Below.heap_setCell _ _ _ _ (by rcases hp with hp|hp;(· omega);(· intro e;exact hne (by rw[e,hp])))];exact h.block k hk hne⟩
theorem zC0 {w w':World} {row:Option Nat} (h:w.grownBy w' row) {g:Nat} (hg:w.heap.size<=g) (cs:Array Value):w.grownBy (w'.setRow g cs) row :=
 ⟨h.os,h.tape,h.output,by simpa using h.size,fun k hk hne=>by rw[setRow_other _ _ _ _ (by omega)];exact h.block k hk hne⟩
theorem zAm {w:World} {b i:Nat} {cs:Array Value} {t:TypeId} {fr:Nat×Nat} (h:w.heap[b]?=some (.cells cs t fr)) (v:Value) :
  (w.setCell ⟨b,i,none⟩ v).heap[b]?=some (.cells (cs.setIfInBounds i v) t fr):=by
 simp[World.setCell,Array.getElem?_modify,h]
theorem zAk (w:World) (p:Addr) (v:Value):(w.setCell p v).heap.size=w.heap.size:=by simp[World.setCell]
theorem zE8 {w:World} {b:Nat} {V:Array Value} {t:TypeId} {fr:Nat×Nat} (h:w.heap[b]?=some (.cells V t fr)):w.rangeAt b 0 V.toList:=fun j v hj =>
 cell_blk h _ (by simpa using hj)
theorem zAi {w:World} {b:Nat} {o:Obj} (h:w.heap[b]?=some o):b<w.heap.size:=(Array.getElem?_eq_some_iff.1 h).1
theorem alloc_at (w:World) (o:Obj):(w.alloc o).heap[w.heap.size]?=some o:=by
 show(w.heap.push o)[w.heap.size]?=some o
 simp
theorem zCG (w:World) (o:Obj) (k:Nat) (h:k<w.heap.size):(w.alloc o).heap[k]?=w.heap[k]?:=Below.heap_alloc w o k h
theorem zAe (w:World) (o:Obj):(w.alloc o).heap.size=w.heap.size+1:=by
 show(w.heap.push o).size=_
 simp
theorem zBd (w:World) (o o':Obj):((w.alloc o).alloc o').heap.size=w.heap.size+2:=by
 rw[zAe,zAe]
theorem zBN (w:World) (o o':Obj):((w.alloc o).alloc o').heap[w.heap.size+1]?=some o':=by
 have:=alloc_at (w.alloc o) o';rwa [zAe]at this
theorem zBM (w:World) (o o':Obj):((w.alloc o).alloc o').heap[w.heap.size]?=some o:=by
 rw[zCG _ _ _ (by rw[zAe];omega)];exact alloc_at w o
theorem zAt {w:World} {o p:Obj} {g:Nat} (h:w.heap[g]?=some p):(w.alloc o).heap[g]?=some p:=by
 show(w.heap.push o)[g]?=_
 rw[Array.getElem?_push_lt (zAi h),<-h,Array.getElem?_eq_getElem (zAi h)]
theorem alloc_at2 (w:World) (A B:Obj):((w.alloc A).alloc B).heap[w.heap.size+1]?=some B:=by
 have:=alloc_at (w.alloc A) B;rwa [zAe]at this
def zA1 (ws:List Nat):Array Value:=(ws.map fun(x:Nat)=>Value.int .u8 (x:Int)).toArray
theorem zDG (ws:List Nat) (i:Nat) (h:i<ws.length):(zA1 ws)[i]?=some (.int .u8 (ws.getD i 0:Nat)):=by
 simp[zA1,h]
structure Bytes (w:World) (v:Value) (l:List Nat):Prop where
 lt:∀ x∈l,x<256
 at_:∃ (a:Option Addr) (sb so c:Nat),v=.slice a l.length c/\l.length<=c/\(0<l.length->a=some ⟨sb,so,none⟩/\sb<w.heap.size) /\
  ∀ j,j<l.length->w.cell? ⟨sb,so+j,none⟩=some (.int .u8 (l.getD j 0:Nat))
theorem Bytes.grown {w w':World} {v:Value} {l:List Nat} (h:Bytes w v l) (hg:w.grownBy w' none):Bytes w' v l:=by
 obtain⟨h1,a,sb,so,c,h2,h3,h4,h5⟩:=h;exact⟨h1,a,sb,so,c,h2,h3,fun h=>⟨(h4 h).1,Nat.lt_of_lt_of_le (h4 h).2 hg.size⟩,fun j hj=>by
  rw[World.cell?_of_block (hg.block sb (h4 (by omega)).2 (by simp))];exact h5 j hj⟩
section
variable {P:Program}
theorem zAR {a b c:World} {base:Nat} {e:TypeId} {size:Nat} {v:Value} {n:Nat} {xs:List Value} (h:a.grownBy b none) (ho:b.ownsRow base e size v n xs) (hb:a.heap.size<=base) (k:b.grownBy c v.ownBlock):a.grownBy c none :=
 ⟨k.os.trans h.os,k.tape.trans h.tape,k.output.trans h.output,Nat.le_trans h.size k.size,fun i hi _=>(k.block i (Nat.lt_of_lt_of_le hi h.size) (fun e=>by have:=(ho.lt _ e.symm).1;omega)).trans (h.block i hi (by simp))⟩
theorem zAy {w:World} {ops:Array Oper} {rest:List Oper} {o:Oper} {a:Act} {Q:Exit->Act->World->Prop} (hgd:o.guard=none) (s x:Operand) (t:TypeId)
  (ho:o.op=.call { callee:=.builtin .append,args:=#[s,x],argTypes:=#[t,t] })
  (base:Nat) (e:TypeId) (z:Value) (bytes:Nat) (ht:P.underlying t=some (.slice e)) (hi:(P.info? e).map (fun i=>(i.zero,i.size,i.bytes))=some (some z,1,bytes)) (hzs:z.cells.size=1) (hby:bytes<=64)
  (v:Value) (n:Nat) (xs:List Value) (hs:a.eval s=v) (hown:w.ownsRow base e 1 v n xs)
  (ad:Addr) (u:Value) (hx:a.eval x=.slice (some ad) 1 1) (hu:w.cell? ad=some u) (h1:u.oneCell'=true)
  (h63:n<1099511627776) (hbase:base<=w.heap.size)
  (h:∀ v' w',w'.ownsRow base e 1 v' (n+1) (xs++[u])->w.grownBy w' v.ownBlock->wpList P ops Q rest (a.put o.dst v') w'):wpList P ops Q (o :: rest) a w:=by
 obtain⟨i,h1',h2',h3',h4'⟩:=info_parts hi;refine wpList_append_own w hgd s x t ho base e i z 1 bytes ht h1' h2' h3' h4' hzs (by decide) v n xs hs hown ad 1 1 [u] hx rfl ?_ ?_ ?_ ?_ hbase (fun v' w' a1 a2 _=>h v' w' a1 a2)
 ·intro j u' hj
  match j,hj with
  |0,hj =>
   simp at hj;subst hj;simpa [Addr.add]using hu
 ·intro u' hu';simp at hu';subst hu';exact h1
 ·unfold maxLen;omega
 ·exact Nat.le_trans (Nat.mul_le_mul_left _ hby) (by omega)
theorem ownsRow_empty (w:World) (base:Nat) (e:TypeId):w.ownsRow base e 1 (.slice none 0 0) 0 []:=⟨rfl,.inl ⟨rfl,rfl⟩⟩
theorem ownsRow_lit {w:World} {base g:Nat} {e:TypeId} {cs:Array Value} (h:w.heap[g]?=some (.cells cs e (0,0))) (hb:base<=g) (hl:cs.size<=1099511627776):w.ownsRow base e 1 (.slice (some ⟨g,0,none⟩) cs.size cs.size) cs.size cs.toList :=
 ⟨by simp,.inr ⟨g,cs.size,cs,rfl,hb,h,Nat.le_refl _,by unfold maxLen;omega,by simp,by rw[Nat.mul_one,List.take_of_length_le (by simp)]⟩⟩
theorem zAl {w:World} {base:Nat} {e:TypeId} {v:Value} {n:Nat} {xs:List Value} (h:w.ownsRow base e 1 v n xs):∃ (a:Option Addr) (g c:Nat),v=.slice a n c/\n<=c/\c<=maxLen/\(0<n->a=some ⟨g,0,none⟩/\base<=g/\g<w.heap.size)/\∀ j,j<n->w.cell? ⟨g,j,none⟩=xs[j]?:=by
 obtain⟨h1,h2⟩:=h;rcases h2 with⟨rfl,rfl⟩|⟨g,cap,cur,rfl,hb,hg,hn,hc,hs,ht⟩
 ·exact⟨none,0,0,rfl,Nat.le_refl _,Nat.zero_le _,fun h=>absurd h (by decide),fun j hj=>absurd hj (by omega)⟩
 ·refine⟨_,g,cap,rfl,hn,hc,fun _=>⟨rfl,hb,zAi hg⟩,fun j hj=>?_⟩;rw[<-ht,List.getElem?_take,if_pos (by omega)];have:j<cur.size:=by omega
  simp[World.cell?,hg]
end
def cellsL (l:List Nat):List Value:=l.map fun(x:Nat)=>Value.int .u8 (x:Int)
theorem zD7 (l:List Nat):(cellsL l).length=l.length:=by simp[cellsL]
theorem zD6 (l:List Nat):∀ u∈cellsL l,u.oneCell'=true:=by
 intro u hu;simp only[cellsL,List.mem_map]at hu;obtain⟨x,_,rfl⟩:=hu;rfl
theorem zAn (a b:List Nat):cellsL (a++b)=cellsL a++cellsL b:=by simp[cellsL]
theorem zCC (l:List Nat) (j:Nat) (h:j<l.length):(cellsL l)[j]?=some (.int .u8 (l.getD j 0:Nat)):=by simp[cellsL,h]
def strL (s:ByteArray):List Nat:=s.data.toList.map (·.toNat)
def strOf (l:List Nat):ByteArray:=⟨(l.map UInt8.ofNat).toArray⟩
theorem zAx (s:ByteArray):(strL s).length=s.size:=by rw[strL,List.length_map,Array.length_toList];rfl
theorem strL_lt (s:ByteArray):∀ x∈strL s,x<256:=by
 intro x hx;simp only[strL,List.mem_map]at hx;obtain⟨b,_,rfl⟩:=hx;exact b.toNat_lt
theorem zCo (s:ByteArray) (i:Nat) (h:i<s.size):(s[i]'h).toNat=(strL s).getD i 0:=by
 have h':i<s.data.size:=h;have e:s[i]'h=s.data[i]'h':=rfl;rw[e,List.getD_eq_getElem?_getD,strL,List.getElem?_map,Array.getElem?_toList,Array.getElem?_eq_getElem h'];rfl
theorem zAE (l:List Nat):(strOf l).size=l.length:=by rw[<-zAx,strL,List.length_map];simp[strOf]
theorem zAw {l:List Nat} (h:∀ x∈l,x<256):strL (strOf l)=l:=by
 simp only[strL,strOf,List.map_map]
 conv=>rhs;rw[<-List.map_id l]
 exact List.map_congr_left fun x hx=>by
  have:=h x hx;simp;omega
theorem zEd {s t:ByteArray} (h:strL s=strL t):s=t:=by
 obtain⟨⟨a⟩⟩:=s;obtain⟨⟨b⟩⟩:=t;simp only[strL]at h;rw[List.map_inj_right (fun x y e=>UInt8.toNat_inj.1 e)]at h;rw[h]
theorem zCJ (s:ByteArray):strOf (strL s)=s:=zEd (zAw (strL_lt s))
theorem zFK (s t:ByteArray):(s.toList==t.toList)=decide (strL s=strL t):=by
 rw[ByteArray.toList_eq,ByteArray.toList_eq,Bool.eq_iff_iff,beq_iff_eq,decide_eq_true_eq];simp only[strL];rw[List.map_inj_right (fun x y e=>UInt8.toNat_inj.1 e)]
theorem zEM {a b:List Nat} (ha:∀ x∈a,x<256) (hb:∀ x∈b,x<256):((strOf a).toList==(strOf b).toList)=decide (a=b):=by
 rw[zFK,zAw ha,zAw hb]
def Whole0 (v:Value):Prop:=∀ n c,v=.slice none n c->n=0/\c=0
section
variable {P:Program}
theorem zAS {w:World} {v:Value} {l:List Nat} (h:Bytes w v l) (src e dst:TypeId) (hs:P.underlying src=some (.slice e)) (he:P.underlying e=some (.int .u8)) (hd:P.underlying dst=some .string) :
  (convert src dst v).run P w=.ok (.string (strOf l)) w:=by
 obtain⟨h1,a,sb,so,c,rfl,hc,ha,hcell⟩:=h;have e1:strOfNums (l.map fun(x:Nat)=>(x:Int))=strOf l:=by simp[strOfNums,strOf]
 rcases Nat.eq_zero_or_pos l.length with h0|h0
 ·obtain rfl:=List.eq_nil_of_length_eq_zero h0
  match a with
  |none=>rw[run_convert_bytes_nil w src e hs he _ _ dst hd];rfl
  |some ad =>
   have hl:(loadCells ad 0).run P w=.ok (([]:List Int).map (Value.int .u8)).toArray w:=by
    have:=run_loadCells_list (P:=P) w ad [] (by simp);simpa using this
   rw[run_convert_bytes_string w src dst e _ _ c hs he hd];exact run_bytesToString w ad 0 c [] hl
 ·obtain⟨rfl,_⟩:=ha h0;rw[<-e1];exact run_convert_bytes_arg w src e hs he sb so l.length c _ (by simp) (fun i hi=>by rw[hcell i hi];simp[hi]) dst hd
theorem addr_addO (g o j:Nat):(⟨g,o,none⟩:Addr).add j=⟨g,o+j,none⟩:=by
 unfold Addr.add;split <;> simp_all
theorem zAP {w:World} {ops:Array Oper} {rest:List Oper} {o:Oper} {a:Act} {Q:Exit->Act->World->Prop} (hgd:o.guard=none) (s x:Operand) (t:TypeId)
  (ho:o.op=.call { callee:=.builtin .append,args:=#[s,x],argTypes:=#[t,t] })
  (base:Nat) (e:TypeId) (z:Value) (bytes:Nat) (ht:P.underlying t=some (.slice e)) (hi:(P.info? e).map (fun i=>(i.zero,i.size,i.bytes))=some (some z,1,bytes)) (hzs:z.cells.size=1) (hby:bytes<=64)
  (v:Value) (n:Nat) (xs:List Value) (hs:a.eval s=v) (hown:w.ownsRow base e 1 v n xs)
  (u:Value) (l:List Nat) (hx:a.eval x=u) (hB:Bytes w u l) (h0:Whole0 u)
  (h63:n+l.length<=1099511627776) (hbase:base<=w.heap.size)
  (h:∀ v' w',w'.ownsRow base e 1 v' (n+l.length) (xs++cellsL l)->w.grownBy w' v.ownBlock->wpList P ops Q rest (a.put o.dst v') w'):wpList P ops Q (o :: rest) a w:=by
 obtain⟨i,h1',h2',h3',h4'⟩:=info_parts hi;obtain⟨hl,ad,sb,so,c,rfl,hc,ha,hcell⟩:=hB
 match ad with
 |none =>
  obtain⟨hn0,rfl⟩:=h0 _ _ rfl;obtain rfl:=List.eq_nil_of_length_eq_zero hn0;refine wpList_append_own_none hgd s x t ho base e i 1 ht h1' v n xs hs hown hx (h v w ?_ (zAa _ _));simpa [cellsL]using hown
 |some ad =>
  refine wpList_append_own w hgd s x t ho base e i z 1 bytes ht h1' h2' h3' h4' hzs (by decide) v n xs hs hown ad l.length c (cellsL l) hx (by simp[cellsL]) ?_ (zD6 l) ?_ ?_ hbase (fun v' w' a1 a2 _=>h v' w' a1 a2)
  ·intro j u' hj;have hjl:j<l.length:=by
    have:=(List.getElem?_eq_some_iff.1 hj).1;simpa [cellsL]using this
   obtain⟨e1,_⟩:=ha (by omega);obtain rfl:=Option.some.inj e1;rw[addr_addO,hcell j hjl,<-zCC l j hjl,hj]
  ·unfold maxLen;omega
  ·exact Nat.le_trans (Nat.mul_le_mul_left _ hby) (by omega)
theorem Bytes.lit {w:World} {g:Nat} {t:TypeId} {fr:Nat×Nat} {l:List Nat} (h:w.heap[g]?=some (.cells (cellsL l).toArray t fr)) (hl:∀ x∈l,x<256):Bytes w (.slice (some ⟨g,0,none⟩) l.length l.length) l :=
 ⟨hl,_,g,0,_,rfl,Nat.le_refl _,fun _=>⟨rfl,zAi h⟩,fun j hj=>by rw[Nat.zero_add];exact cell_blk h j (by rw[List.getElem?_toArray];exact zCC l j hj)⟩
theorem Whole0.some (a:Addr) (n c:Nat):Whole0 (.slice (some a) n c):=fun _ _ e=>by cases e
theorem Bytes.own {w:World} {base:Nat} {e:TypeId} {v:Value} {n:Nat} {l:List Nat} (h:w.ownsRow base e 1 v n (cellsL l)) (hl:∀ x∈l,x<256):Bytes w v l:=by
 obtain⟨a,g,c,rfl,h1,h2,h3,h4⟩:=zAl h;have hn:n=l.length:=by have:=h.1;simpa [cellsL]using this.symm
 subst hn;exact⟨hl,a,g,0,c,rfl,h1,fun h=>⟨(h3 h).1,(h3 h).2.2⟩,fun j hj=>by rw[Nat.zero_add,h4 j hj];exact zCC l j hj⟩
theorem Whole0.own {w:World} {base:Nat} {e:TypeId} {v:Value} {n:Nat} {xs:List Value} (h:w.ownsRow base e 1 v n xs):Whole0 v:=by
 intro n' c e;rcases h.2 with⟨rfl,rfl⟩|⟨g,cap,cur,rfl,_⟩
 ·cases e;exact⟨rfl,rfl⟩
 ·cases e
end
section
variable {P:Program}
theorem zBl (w:World) (base:Nat) (t ty e:TypeId) (i:TypeInfo) (z:Value) (ht:P.underlying t=some (.slice e)) (hi:P.info? e=some i) (hz:i.zero=some z) (hsize:i.size=1) (hzs:z.cells.size=1) (hby:i.bytes<=64)
  (v:Value) (n:Nat) (xs:List Value) (hown:w.ownsRow base e 1 v n xs) (a:Addr) (m c:Nat) (news:List Value) (hl:news.length=m) (hnews:∀ j u,news[j]?=some u->w.cell? (a.add j)=some u) (h1:∀ u∈news,u.oneCell'=true)
  (h63:n+m<=1099511627776) (hbase:base<=w.heap.size) :
  ∃ v' w',(Builtin.append_ #[t,t] ty #[v,.slice (some a) m c]).run P w=.ok v' w'/\w'.ownsRow base e 1 v' (n+m) (xs++news)/\w.grownBy w' v.ownBlock/\(v'.ownBlock=v.ownBlock∨v'.ownBlock=some w.heap.size):=by
 have hmax:n+m<=maxLen:=by unfold maxLen;omega
 have hbytes:(n+m)*i.bytes<=140737488355328:=Nat.le_trans (Nat.mul_le_mul_left _ hby) (by omega);obtain⟨v',w',hr,h2,h3,h4⟩:=run_append_own (P:=P) w base t ty e i z 1 i.bytes ht hi hz hsize rfl hzs (by decide) v n xs hown a m c news (by omega) hnews h1 hmax hbytes hbase;refine⟨v',w',hr,h2,h3,?_⟩;rcases hown.2 with⟨rfl,rfl⟩|⟨g,cap,cur,rfl,hbg,hg,hnc,hcm,hcs,htake⟩
 ·rcases Nat.eq_zero_or_pos m with hm|hm
  ·rw[h4.2 ⟨rfl,hm⟩];exact .inl rfl
  ·have:=run_append_nil (P:=P) w t ty e i z ht hi hz a m c news (by rw[hsize];omega) hnews hm (by omega) (by simp only[Nat.zero_add]at hbytes;omega);rw[this]at hr;cases hr
   exact .inr rfl
 ·by_cases hroom:n+m<=cap
  ·have:=run_append_room (P:=P) w t ty e i ht hi g n cap cur hg a m c news (by rw[hsize];omega) hnews h1 hroom (by rw[hsize];omega);rw[this]at hr;cases hr
   exact .inl rfl
  ·have:=run_append_grow (P:=P) w t ty e i z ht hi hz ⟨g,0,none⟩ n cap xs (by rw[hsize];exact hown.1) (hown.cells (g:=g) rfl) a m c news (by rw[hsize];omega) hnews (by omega) (by omega) (growslice_fits (by omega) hbytes);rw[this]at hr;cases hr
   exact .inr rfl
theorem zBT {w:World} {ops:Array Oper} {rest:List Oper} {o:Oper} {a:Act} {Q:Exit->Act->World->Prop} (hgd:o.guard=none) (s x:Operand) (t:TypeId)
  (ho:o.op=.call { callee:=.builtin .append,args:=#[s,x],argTypes:=#[t,t] })
  (base:Nat) (e:TypeId) (z:Value) (bytes:Nat) (ht:P.underlying t=some (.slice e)) (hi:(P.info? e).map (fun i=>(i.zero,i.size,i.bytes))=some (some z,1,bytes)) (hzs:z.cells.size=1) (hby:bytes<=64)
  (v:Value) (n:Nat) (xs:List Value) (hs:a.eval s=v) (hown:w.ownsRow base e 1 v n xs)
  (u:Value) (l:List Nat) (hx:a.eval x=u) (hB:Bytes w u l) (h0:Whole0 u)
  (h63:n+l.length<=1099511627776) (hbase:base<=w.heap.size)
  (h:∀ v' w',w'.ownsRow base e 1 v' (n+l.length) (xs++cellsL l)->w.grownBy w' v.ownBlock->(v'.ownBlock=v.ownBlock∨v'.ownBlock=some w.heap.size)->wpList P ops Q rest (a.put o.dst v') w'):wpList P ops Q (o :: rest) a w:=by
 obtain⟨i,h1',h2',h3',h4'⟩:=info_parts hi;obtain⟨hl,ad,sb,so,c,rfl,hc,ha,hcell⟩:=hB
 match ad with
 |none =>
  obtain⟨hn0,rfl⟩:=h0 _ _ rfl;obtain rfl:=List.eq_nil_of_length_eq_zero hn0;refine wpList_append_own_none hgd s x t ho base e i 1 ht h1' v n xs hs hown hx (h v w ?_ (zAa _ _) (.inl rfl));simpa [cellsL]using hown
 |some ad =>
  obtain⟨v',w',hr,k1,k2,k3⟩:=zBl (P:=P) w base t o.type e i z ht h1' h2' h3' hzs (by rw[h4'];exact hby) v n xs hown ad l.length c (cellsL l) (by simp[cellsL]) (fun j u' hj=>by
   have hjl:j<l.length:=by
    have:=(List.getElem?_eq_some_iff.1 hj).1;simpa [cellsL]using this
   obtain⟨e1,_⟩:=ha (by omega);obtain rfl:=Option.some.inj e1;rw[addr_addO,hcell j hjl,<-zCC l j hjl,hj]) (zD6 l) h63 hbase
  refine wpList_plain hgd fun K hK=>?_
  unfold Oper.wp execOp;simp only[ho,resolve,invoke,builtin,Sem.run_bind,Sem.run_pure,Result.andThen_ok,List.map_toArray,List.map_cons,List.map_nil,hs,hx,hr];exact hK _ _ (h v' w' k1 k2 k3)
end
section
variable {P:Program}
theorem zBF (w:World) (base:Nat) (t ty e:TypeId) (i:TypeInfo) (z:Value) (size:Nat) (ht:P.underlying t=some (.slice e)) (hi:P.info? e=some i) (hz:i.zero=some z) (hsize:i.size=size) (hzs:z.cells.size=size) (hsz:0<size) (hby:i.bytes<=64)
  (v:Value) (n:Nat) (xs:List Value) (hown:w.ownsRow base e size v n xs) (a:Addr) (m c:Nat) (news:List Value) (hl:news.length=m*size) (hnews:∀ j u,news[j]?=some u->w.cell? (a.add j)=some u) (h1:∀ u∈news,u.oneCell'=true)
  (h63:n+m<=1099511627776) (hbase:base<=w.heap.size) :
  ∃ v' w',(Builtin.append_ #[t,t] ty #[v,.slice (some a) m c]).run P w=.ok v' w'/\w'.ownsRow base e size v' (n+m) (xs++news)/\w.grownBy w' v.ownBlock/\(v'.ownBlock=v.ownBlock∨v'.ownBlock=some w.heap.size):=by
 have hmax:n+m<=maxLen:=by unfold maxLen;omega
 have hbytes:(n+m)*i.bytes<=140737488355328:=Nat.le_trans (Nat.mul_le_mul_left _ hby) (by omega);obtain⟨v',w',hr,h2,h3,h4⟩:=run_append_own (P:=P) w base t ty e i z size i.bytes ht hi hz hsize rfl hzs hsz v n xs hown a m c news hl hnews h1 hmax hbytes hbase;refine⟨v',w',hr,h2,h3,?_⟩;subst hsize;rcases hown.2 with⟨rfl,rfl⟩|⟨g,cap,cur,rfl,hbg,hg,hnc,hcm,hcs,htake⟩
 ·rcases Nat.eq_zero_or_pos m with hm|hm
  ·rw[h4.2 ⟨rfl,hm⟩];exact .inl rfl
  ·have:=run_append_nil (P:=P) w t ty e i z ht hi hz a m c news hl hnews hm (by omega) (by simp only[Nat.zero_add]at hbytes;omega);rw[this]at hr;cases hr
   exact .inr rfl
 ·by_cases hroom:n+m<=cap
  ·have:=run_append_room (P:=P) w t ty e i ht hi g n cap cur hg a m c news hl hnews h1 hroom (by rw[hl,hcs,<-Nat.add_mul];exact Nat.mul_le_mul_right _ hroom);rw[this]at hr;cases hr
   exact .inl rfl
  ·have:=run_append_grow (P:=P) w t ty e i z ht hi hz ⟨g,0,none⟩ n cap xs hown.1 (hown.cells (g:=g) rfl) a m c news hl hnews (by omega) (by omega) (growslice_fits (by omega) hbytes);rw[this]at hr;cases hr
   exact .inr rfl
theorem zAH {w:World} {ops:Array Oper} {rest:List Oper} {o:Oper} {a:Act} {Q:Exit->Act->World->Prop} (hgd:o.guard=none) (s x:Operand) (t:TypeId)
  (ho:o.op=.call { callee:=.builtin .append,args:=#[s,x],argTypes:=#[t,t] })
  (base:Nat) (e:TypeId) (z:Value) (size bytes:Nat) (ht:P.underlying t=some (.slice e)) (hi:(P.info? e).map (fun i=>(i.zero,i.size,i.bytes))=some (some z,size,bytes)) (hzs:z.cells.size=size) (hsz:0<size) (hby:bytes<=64)
  (v:Value) (n:Nat) (xs:List Value) (hs:a.eval s=v) (hown:w.ownsRow base e size v n xs)
  (ad:Addr) (m c:Nat) (news:List Value) (hx:a.eval x=.slice (some ad) m c) (hl:news.length=m*size) (hnews:∀ j u,news[j]?=some u->w.cell? (ad.add j)=some u) (h1:∀ u∈news,u.oneCell'=true)
  (h63:n+m<=1099511627776) (hbase:base<=w.heap.size)
  (h:∀ v' w',w'.ownsRow base e size v' (n+m) (xs++news)->w.grownBy w' v.ownBlock->(v'.ownBlock=v.ownBlock∨v'.ownBlock=some w.heap.size)->wpList P ops Q rest (a.put o.dst v') w'):wpList P ops Q (o :: rest) a w:=by
 obtain⟨i,h1',h2',h3',h4'⟩:=info_parts hi;obtain⟨v',w',hr,k1,k2,k3⟩:=zBF (P:=P) w base t o.type e i z size ht h1' h2' h3' hzs hsz (by rw[h4'];exact hby) v n xs hown ad m c news hl hnews h1 h63 hbase;refine wpList_plain hgd fun K hK=>?_
 unfold Oper.wp execOp;simp only[ho,resolve,invoke,builtin,Sem.run_bind,Sem.run_pure,Result.andThen_ok,List.map_toArray,List.map_cons,List.map_nil,hs,hx,hr];exact hK _ _ (h v' w' k1 k2 k3)
end
theorem zBO {w:World} {b1 b2:Nat} {e1 e2:TypeId} {s1 s2:Nat} {v u:Value} {n m:Nat} {xs ys:List Value} (h:w.ownsRow b1 e1 s1 v n xs) (h':w.ownsRow b2 e2 s2 u m ys) (he:e1≠e2) {k:Nat} (hk:v.ownBlock=some k):u.ownBlock≠some k:=fun hu=>by
 rcases h.2 with⟨h1,_⟩|⟨g,_,_,h1,_,h2,_⟩
 ·rw[h1]at hk;exact absurd hk (by simp[Value.ownBlock])
 ·rcases h'.2 with⟨k1,_⟩|⟨g',_,_,k1,_,k2,_⟩
  ·rw[k1]at hu;exact absurd hu (by simp[Value.ownBlock])
  ·rw[h1]at hk;rw[k1]at hu;obtain rfl:g=k:=Option.some.inj hk;obtain rfl:g'=g:=Option.some.inj hu;rw[h2]at k2;simp only[Option.some.injEq,Obj.cells.injEq]at k2;exact he k2.2.1
theorem zFc {w:World} {base:Nat} {e t:TypeId} {sz:Nat} {v:Value} {n b:Nat} {xs:List Value} {cs:Array Value} {fr:Nat×Nat} (h:w.ownsRow base e sz v n xs) (hb:w.heap[b]?=some (.cells cs t fr)) (he:e≠t):v.ownBlock≠some b:=fun hk=>by
 rcases h.2 with⟨h1,_⟩|⟨g,_,_,h1,_,h2,_⟩
 ·rw[h1]at hk;exact absurd hk (by simp[Value.ownBlock])
 ·rw[h1]at hk;obtain rfl:g=b:=Option.some.inj hk;rw[h2]at hb;simp only[Option.some.injEq,Obj.cells.injEq]at hb;exact he hb.2.1
theorem zIW {w:World} {base:Nat} {e:TypeId} {sz:Nat} {v:Value} {n:Nat} {xs:List Value} (h:w.ownsRow base e sz v n xs) {k:Nat} (hk:v.ownBlock=some k):k<w.heap.size:=(h.lt k hk).2
theorem zAp {w:World} {base:Nat} {e:TypeId} {sz:Nat} {v:Value} {n:Nat} {xs:List Value} (h:w.ownsRow base e sz v n xs):∃ (a:Option Addr) (g c:Nat),v=.slice a n c/\n<=c/\c<=maxLen/\(a=none->n=0/\c=0)/\(∀ p,a=some p->p=⟨g,0,none⟩)/\(0<n->a=some ⟨g,0,none⟩/\g<w.heap.size/\(∀ j u,xs[j]?=some u->w.cell? ⟨g,j,none⟩=some u)/\∀ j,w.frozen? ⟨g,j,none⟩=false):=by
 rcases h.2 with⟨rfl,rfl⟩|⟨g,cap,cur,rfl,_,hg,hc,hm,hs,ht⟩
 ·exact⟨none,0,0,rfl,Nat.le_refl _,by unfold maxLen;omega,fun _=>⟨rfl,rfl⟩,(fun _ h=>by cases h),fun h=>absurd h (Nat.lt_irrefl _)⟩
 ·refine⟨some ⟨g,0,none⟩,g,cap,rfl,hc,hm,(fun h=>by cases h),fun p h=>(Option.some.inj h).symm,fun _=>⟨rfl,zAi hg,fun j u hj=>?_,fun j=>zAh hg j⟩⟩;have:=h.cells (g:=g) rfl j u hj;rwa [addr_addO,Nat.zero_add]at this
theorem zGO {w:World} {base:Nat} {e:TypeId} {sz g n c:Nat} {xs:List Value} (h:w.ownsRow base e sz (.slice (some ⟨g,0,none⟩) n c) n xs) {k:Nat} (hk:k<=n):w.ownsRow base e sz (.slice (some ⟨g,0,none⟩) k c) k (xs.take (k*sz)):=by
 have hmul:k*sz<=n*sz:=Nat.mul_le_mul_right _ hk;refine⟨by rw[List.length_take,h.1];omega,?_⟩;rcases h.2 with⟨h1,_⟩|⟨g',cap,cur,h1,h2,h3,h4,h5,h6,h7⟩
 ·exact absurd h1 (by simp)
 ·simp only[Value.slice.injEq,Option.some.injEq,Addr.mk.injEq,and_true,true_and]at h1;obtain⟨rfl,rfl⟩:=h1;exact .inr ⟨g,c,cur,rfl,h2,h3,by omega,h5,h6,by rw[<-h7,List.take_take,Nat.min_eq_left hmul]⟩
theorem zJ9 {w:World} {base:Nat} {e:TypeId} {sz g n c:Nat} {xs:List Value} (h:w.ownsRow base e sz (.slice (some ⟨g,0,none⟩) n c) n xs) {K:Nat} (u:Value) :
  (w.setCell ⟨g,K,none⟩ u).ownsRow base e sz (.slice (some ⟨g,0,none⟩) n c) n (xs.set K u):=by
 refine⟨by simpa using h.1,?_⟩;rcases h.2 with⟨h1,_⟩|⟨g',cap,cur,h1,h2,h3,h4,h5,h6,h7⟩
 ·exact absurd h1 (by simp)
 ·simp only[Value.slice.injEq,Option.some.injEq,Addr.mk.injEq,and_true,true_and]at h1;obtain⟨rfl,rfl⟩:=h1;refine .inr ⟨g,c,cur.setIfInBounds K u,rfl,h2,zAm h3 u,h4,h5,by simpa using h6,?_⟩;rw[Array.toList_setIfInBounds,List.take_set,h7]
theorem zCF:∀ (x y:List UInt8),Op.bytesLess x y=Cal.lex (x.map (·.toNat)) (y.map (·.toNat))
 |[],[]=>rfl
 |_ :: _,[]=>rfl
 |[],_ :: _=>rfl
 |a :: x,b :: y=>by
  have h:=zCF x y;rw[Op.bytesLess,List.map_cons,List.map_cons,Cal.lex,h];by_cases e:a=b
  ·subst e;simp
  ·have e2:¬ a.toNat=b.toNat:=fun h=>e (UInt8.toNat_inj.1 h)
   rw[if_neg e2];simp[e,UInt8.lt_iff_toNat_lt]
theorem zGD (s t:ByteArray):Op.bytesLess s.toList t.toList=Cal.lex (strL s) (strL t):=by
 rw[ByteArray.toList_eq,ByteArray.toList_eq,zCF];rfl
namespace Pt
def rowL (u m i:Nat):List Nat:=[u,rev8 (m%2 ^ i%256),rev8 (m%2 ^ i/256)]
theorem rev8_step_fin:∀ x:Fin 256,∀ i:Fin 8,rev8 (x.val%2 ^ (i.val+1))=rev8 (x.val%2 ^ i.val)+(if x.val/2 ^ i.val%2=1 then 2 ^ (7-i.val)else 0):=by decide +kernel
theorem bit_lo (m:Nat):∀ i,i<8->m%256/2 ^ i%2=m/2 ^ i%2
 |0,_=>by simp only[Nat.pow_zero];omega
 |1,_=>by show m%256/2%2=m/2%2;omega
 |2,_=>by show m%256/4%2=m/4%2;omega
 |3,_=>by show m%256/8%2=m/8%2;omega
 |4,_=>by show m%256/16%2=m/16%2;omega
 |5,_=>by show m%256/32%2=m/32%2;omega
 |6,_=>by show m%256/64%2=m/64%2;omega
 |7,_=>by show m%256/128%2=m/128%2;omega
theorem lo_low (m:Nat) {i:Nat} (h:i<=8):m%2 ^ i%256=m%256%2 ^ i/\m%2 ^ i/256=0:=by
 have h1:2 ^ i<=256:=Nat.pow_le_pow_right (n:=2) (by decide) h;have h2:2 ^ i ∣ 256:=Nat.pow_dvd_pow 2 h;have h3:m%2 ^ i<2 ^ i:=Nat.mod_lt _ (Nat.pow_pos (by decide));rw[Nat.mod_mod_of_dvd _ h2];exact⟨Nat.mod_eq_of_lt (by omega),by omega⟩
theorem lo_high (m k:Nat):m%2 ^ (8+k)%256=m%256/\m%2 ^ (8+k)/256=m/256%2 ^ k:=by
 have e:m%2 ^ (8+k)=m%256+256*(m/256%2 ^ k):=by rw[Nat.pow_add,show(2:Nat) ^ 8=256 from rfl,Nat.mod_mul]
 rw[e];omega
theorem bit_high (m k:Nat):m/2 ^ (8+k)=m/256/2 ^ k:=by rw[Nat.pow_add,show(2:Nat) ^ 8=256 from rfl,Nat.div_div_eq_div_mul]
theorem rev8_step {x i:Nat} (hx:x<256) (hi:i<8):rev8 (x%2 ^ (i+1))=rev8 (x%2 ^ i)+(if x/2 ^ i%2=1 then 2 ^ (7-i)else 0):=rev8_step_fin ⟨x,hx⟩ ⟨i,hi⟩
theorem rowL_step (u:Nat) {m i:Nat} (hm:m<32768) (hi:i<15):rowL u m (i+1)=(rowL u m i).set (1+i/8) ((rowL u m i).getD (1+i/8) 0+(if m/2 ^ i%2=1 then 2 ^ (7-i%8)else 0)):=by
 rcases Nat.lt_or_ge i 8 with h|h
 ·have a:=lo_low m (i:=i) (by omega);have b:=lo_low m (i:=i+1) (by omega);have c:=rev8_step (x:=m%256) (Nat.mod_lt _ (by decide)) h;rw[bit_lo m i h]at c;rw[show i/8=0 by omega,show i%8=i by omega];simp only[rowL,a.1,a.2,b.1,b.2,c,Nat.add_zero,List.getD_cons_succ,List.getD_cons_zero,List.set_cons_succ,List.set_cons_zero]
 ·obtain⟨k,rfl⟩:∃ k,i=8+k:=⟨i-8,by omega⟩
  have a:=lo_high m k;have b:=lo_high m (k+1);have c:=rev8_step (x:=m/256) (i:=k) (by omega) (by omega);rw[<-bit_high]at c;rw[show(8+k)/8=1 by omega,show(8+k)%8=k by omega,show 8+k+1=8+(k+1)by omega];simp only[rowL,a.1,a.2,b.1,b.2,c,List.getD_cons_succ,List.getD_cons_zero,List.set_cons_succ,List.set_cons_zero,show 1+1=2 from rfl]
theorem rowL_lt (u m i:Nat) (hu:u<256):∀ j,(rowL u m i).getD j 0<256:=by
 have a:=rev8_lt (m%2 ^ i%256);have b:=rev8_lt (m%2 ^ i/256);intro j
 match j with
 |0=>exact hu
 |1=>exact a
 |2=>exact b
 |n+3=>exact Nat.zero_lt_succ _
theorem size_step (m i:Nat):size (m%2 ^ (i+1))=if m/2 ^ i%2=1 then i+1 else size (m%2 ^ i):=by
 have e:m%2 ^ (i+1)=m%2 ^ i+2 ^ i*(m/2 ^ i%2):=Nat.mod_pow_succ;have h1:m%2 ^ i<2 ^ i:=Nat.mod_lt _ (Nat.pow_pos (by decide));have h2:2 ^ (i+1)=2 ^ i*2:=Nat.pow_succ ..;split
 ·rename_i h
  rw[h,Nat.mul_one]at e;exact size_is (by omega) (by omega)
 ·rename_i h
  rw[show m/2 ^ i%2=0 by omega,Nat.mul_zero]at e;rw[e];rfl
theorem size_15 {m:Nat} (hm:m<32768):size m<=15:=size_le_of (k:=15) hm
theorem flags_take {m:Nat} (hm:m<32768):(rowL (8*((size m+7)/8)-size m) m (size m)).take (1+(size m+7)/8)=flags m:=by
 have a:=size_lt m;have hm2:m%2 ^ size m=m:=Nat.mod_eq_of_lt a;rw[rowL,hm2];unfold flags;by_cases h0:m=0
 ·rw[if_pos h0,h0];rfl
 ·rw[if_neg h0];have c:=size_pos h0;by_cases h1:m<256
  ·have d:size m<=8:=size_le_of (k:=8) h1;rw[if_pos h1,show(size m+7)/8=1 by omega,Nat.mod_eq_of_lt h1];rfl
  ·have d:size m<=16:=size_le_of (k:=16) (by omega);have e:9<=size m:=by
    have:8<size m:=(Nat.pow_lt_pow_iff_right (a:=2) (by decide)).1 (by omega);omega
   rw[if_neg h1,show(size m+7)/8=2 by omega];rfl
end Pt
namespace Wh
theorem num_snoc (c:Nat):∀ l,num (l++[c])=num l*256+c
 |[]=>by simp[num]
 |x :: r=>by
  rw[List.cons_append,num,num_snoc c r,num,List.length_append,List.length_singleton,Nat.pow_succ];generalize 256 ^ r.length=p;rw[Nat.add_mul,<-Nat.mul_assoc];omega
theorem num_take (l:List Nat) (k:Nat) (h:k<l.length):num (l.take (k+1))=num (l.take k)*256+l.getD k 0:=by
 rw[List.take_add_one,List.getElem?_eq_getElem h,Option.toList_some,num_snoc];simp[List.getD_eq_getElem?_getD,List.getElem?_eq_getElem h]
def acc (s:Bool) (l:List Nat) (k:Nat):Nat:=num (l.take k)+(if s then 18446744073709551616-256 ^ k else 0)
theorem acc_step (s:Bool) (l:List Nat) (k:Nat) (hl:∀ x∈l,x<256) (h:k<l.length) (h8:l.length<=8):(acc s l k*256+l.getD k 0)%18446744073709551616=acc s l (k+1)/\acc s l k<18446744073709551616:=by
 have h1:=num_lt (l:=l.take k) (fun x hx=>hl x (List.mem_of_mem_take hx));have h2:=num_lt (l:=l.take (k+1)) (fun x hx=>hl x (List.mem_of_mem_take hx));have hx:l.getD k 0<256:=by
  rw[List.getD_eq_getElem?_getD,List.getElem?_eq_getElem h];exact hl _ (List.getElem_mem h)
 have ht:=num_take l k h;rw[List.length_take,Nat.min_eq_left (by omega)]at h1 h2;have hp:256 ^ (k+1)<=256 ^ 8:=Nat.pow_le_pow_right (by decide) (by omega);rw[show(256 ^ 8:Nat)=18446744073709551616 by decide]at hp;have hk:0<256 ^ k:=Nat.pow_pos (by decide);unfold acc;rw[ht]at h2 ⊢;rw[Nat.pow_succ]at *;generalize num (l.take k)=a at *;generalize 256 ^ k=p at *;generalize l.getD k 0=x at *;cases s
 ·simp;omega
 ·simp only[if_true];omega
end Wh
theorem zBp (n:Int):wrap64 n=IntKind.i64.wrap n:=by
 simp only[wrap64,IntKind.wrap,IntKind.bits,IntKind.signed];simp;split <;> omega
theorem zB1 (m z:Nat):IntKind.u64.wrap (IntKind.u64.wrap ((m:Int)*256)+(z:Int))=(((m*256+z)%18446744073709551616:Nat):Int):=by
 simp only[IntKind.wrap,IntKind.bits,IntKind.signed];simp
theorem zAY {l:List Nat} (h:∀ x∈l,x<256) (j:Nat):l.getD j 0<256:=by
 rcases Nat.lt_or_ge j l.length with hj|hj
 ·rw[List.getD_eq_getElem?_getD,List.getElem?_eq_getElem hj];exact h _ (List.getElem_mem hj)
 ·rw[List.getD_eq_getElem?_getD,List.getElem?_eq_none hj];decide
theorem zKJ (l:List Nat) (x:Nat) (r:List Nat) (e:l=x :: r) (hl:∀ x∈l,x<256) (h8:l.length<=8):IntKind.i64.wrap ((Wh.acc (decide (127<x)) l l.length:Nat):Int)=Wh.val l:=by
 subst e;have h1:=Wh.num_lt hl;have hp:256 ^ (x :: r).length<=256 ^ 8:=Nat.pow_le_pow_right (by decide) h8;rw[show(256 ^ 8:Nat)=18446744073709551616 by decide]at hp;have hv:=Wh.val_i64 hl h8;rw[Wh.val]at hv ⊢;rw[Wh.acc,List.take_length];rw[List.length_cons]at *;generalize Wh.num (x :: r)=p at *;generalize 256 ^ (r.length+1)=q at *;simp only[IntKind.wrap,IntKind.bits,IntKind.signed];by_cases hx:127<x
 ·rw[if_pos hx]at hv ⊢;simp only[hx,decide_true,if_true];simp;omega
 ·rw[if_neg hx]at hv ⊢;simp only[hx,decide_false];simp;omega
theorem zFQ (v:Value) (l:List Nat) (w:World) (hB:Bytes w v l) :
  Calls prog 115 #[v] w fun e w'=>w'=w/\match Wh.get l with
   |.ok n=>e=.returned (.tuple #[.int .i64 n,.int .i64 0])
   |.error k=>e=.returned (.tuple #[.int .i64 0,.int .i64 k]):=by
 obtain⟨hlt,a,sb,so,c,rfl,hc,ha,hcell⟩:=hB
 match l,hlt,hc,ha,hcell with
 |[],hlt,hc,ha,hcell =>
  clear hlt ha hcell;rw[show Wh.get []=.error 2 by rw[Wh.get,if_pos rfl]];go_enter func115,ntmps115
  go_wp2
  go_ret2
  exact⟨rfl,rfl⟩
 |x :: r,hlt,hc,ha,hcell =>
  obtain⟨rfl,ha2⟩:=ha (by simp);have c0:w.cell? ⟨sb,so,none⟩=some (.int .u8 (x:Nat)):=hcell 0 (by simp);have hx:=hlt x (by simp);obtain⟨y,hy⟩:∃ y,y=(x :: r).getD 1 0:=⟨_,rfl⟩
  have hy2:y<256:=by rw[hy];exact zAY hlt 1
  have c1:1<(x :: r).length->w.cell? ⟨sb,so+1,none⟩=some (.int .u8 (y:Nat)):=fun h=>by rw[hy];exact hcell 1 h
  have hneed:Wh.needless (x :: r)=true↔1<(x :: r).length/\(x=0/\y<128∨x=255/\127<y):=by
   match r,hy with
   |[],_=>simp[Wh.needless]
   |z :: s,hy =>
    have:y=z:=by simpa using hy
    subst this;simp[Wh.needless]
  have hg1:Wh.needless (x :: r)=true->Wh.get (x :: r)=.error 4:=fun h=>by rw[Wh.get,if_neg (by simp),if_pos h]
  have hg2:¬ Wh.needless (x :: r)=true->8<(x :: r).length->Wh.get (x :: r)=.error 1:=fun h h8=>by rw[Wh.get,if_neg (by simp),if_neg h,if_pos h8]
  have hg3:¬ Wh.needless (x :: r)=true->¬ 8<(x :: r).length->Wh.get (x :: r)=.ok (Wh.val (x :: r)):=fun h h8=>by rw[Wh.get,if_neg (by simp),if_neg h,if_neg h8]
  have hlast:=fun h8=>zKJ (x :: r) x r rfl hlt h8
  have hstep:=fun k h h8=>Wh.acc_step (decide (127<x)) (x :: r) k hlt h h8
  have hx0:(x :: r).getD 0 0=x:=rfl;have hpos:0<(x :: r).length:=by simp
  rw[hneed]at hg1 hg2 hg3;clear hneed hy ha;generalize hL:(x :: r)=L at *;have Hcell:=hid hcell;have Hlt:=hid hlt;have HL:=hid hL;clear hcell hlt hL;obtain⟨n,hn⟩:∃ n,n=L.length:=⟨_,rfl⟩
  have HN:=hid hn;rw[<-hn]at hc c1 hg1 hg2 hg3 hlast hstep hpos ⊢;have Hlast:=hid hlast;have Hstep:=hid hstep;clear hn hlast hstep hx0;generalize hgv:Wh.get L=gv at *;clear hgv;by_cases h1:1<n/\(x=0/\y<128∨x=255/\127<y)
  ·obtain rfl:=hg1 h1;obtain⟨h1,h2⟩:=h1;have c1':=c1 h1;clear hg1 hg2 hg3 c1;go_enter func115,ntmps115
   rcases h2 with⟨rfl,h2⟩|⟨rfl,h2⟩
   ·go_wp2
    go_ret2
    exact⟨rfl,rfl⟩
   ·go_wp2
    go_ret2
    exact⟨rfl,rfl⟩
  ·have hcase:n=1∨(1<n/\x=0/\128<=y)∨(1<n/\x=255/\y<=127)∨(1<n/\x≠0/\x≠255):=by omega
   by_cases h8:8<n
   ·obtain rfl:=hg2 h1 h8;have c1':=c1 (by omega);clear hg1 hg2 hg3 c1 h1;go_enter func115,ntmps115
    rcases hcase with h|⟨h,rfl,h2⟩|⟨h,rfl,h2⟩|⟨h,h2,h3⟩
    ·omega
    ·go_wp2
     go_ret2
     exact⟨rfl,rfl⟩
    ·go_wp2
     go_ret2
     exact⟨rfl,rfl⟩
    ·go_wp2
     go_ret2
     exact⟨rfl,rfl⟩
   ·obtain rfl:=hg3 h1 h8;clear hg1 hg2 hg3 h1;have Hl:=hid (Hlast.out (by omega));have HSt:=hid (fun k hk=>Hstep.out k hk (by omega));obtain⟨S,hS⟩:∃ S,S=decide (127<x):=⟨_,rfl⟩
    have HS:Hid (S=decide (127<x)):=hid hS;rw[<-hS]at Hl HSt;generalize Wh.val L=V at *;have fin:∀ (a:Act),True:=fun _=>trivial
    clear Hlast Hstep hS fin;rcases hcase with rfl|⟨h,rfl,h2⟩|⟨h,rfl,h2⟩|⟨h,h2,h3⟩
    ·clear c1;by_cases hs:127<x
     ·go_enter func115,ntmps115
      go_wp2
      go_loopw [4,46] (fun u i wr=>∃ k:Nat,k<=1/\i=.int .i64 k/\u=.int .u64 (Wh.acc S L k:Nat)/\wr=w) (fun _ i _=>1-(intOf i).toNat)
      case atStart=>exact⟨0,Nat.zero_le _,rfl,by rw[HS.out];simp[Wh.acc,Wh.num,hs],rfl⟩
      case round =>
       obtain⟨k,hk,rfl,rfl,rfl⟩:=hrel;by_cases hkn:k<1
       ·have hc1:=Hcell.out k (by rw[<-HN.out];exact hkn);have hz:=zAY Hlt.out k;obtain⟨hs1,hs2⟩:=HSt.out k hkn;have Hs1:=hid hs1;clear hs1;generalize L.getD k 0=z at *;generalize Wh.acc S L k=m at *;go_wp2
        go_roundw
        case rel=>exact⟨k+1,by omega,by go_num,by rw[zB1,Hs1.out],trivial⟩
        case measure=>simp[intOf];omega
       ·obtain rfl:k=1:=by omega
        generalize hm:Wh.acc S L _=m at *;have Hm1:=hid hm;clear hm;go_wp2
        go_ret2
        exact⟨rfl,by rw[<-Hl.out,<-zBp];rfl⟩
     ·go_enter func115,ntmps115
      go_wp2
      go_loopw [4,46] (fun u i wr=>∃ k:Nat,k<=1/\i=.int .i64 k/\u=.int .u64 (Wh.acc S L k:Nat)/\wr=w) (fun _ i _=>1-(intOf i).toNat)
      case atStart=>exact⟨0,Nat.zero_le _,rfl,by rw[HS.out];simp[Wh.acc,Wh.num,hs],rfl⟩
      case round =>
       obtain⟨k,hk,rfl,rfl,rfl⟩:=hrel;by_cases hkn:k<1
       ·have hc1:=Hcell.out k (by rw[<-HN.out];exact hkn);have hz:=zAY Hlt.out k;obtain⟨hs1,hs2⟩:=HSt.out k hkn;have Hs1:=hid hs1;clear hs1;generalize L.getD k 0=z at *;generalize Wh.acc S L k=m at *;go_wp2
        go_roundw
        case rel=>exact⟨k+1,by omega,by go_num,by rw[zB1,Hs1.out],trivial⟩
        case measure=>simp[intOf];omega
       ·obtain rfl:k=1:=by omega
        generalize hm:Wh.acc S L _=m at *;have Hm1:=hid hm;clear hm;go_wp2
        go_ret2
        exact⟨rfl,by rw[<-Hl.out,<-zBp];rfl⟩
    ·have c1':=c1 h;clear c1;go_enter func115,ntmps115
     go_wp2
     go_loopw [4,46] (fun u i wr=>∃ k:Nat,k<=n/\i=.int .i64 k/\u=.int .u64 (Wh.acc S L k:Nat)/\wr=w) (fun _ i _=>n-(intOf i).toNat)
     case atStart=>exact⟨0,Nat.zero_le _,rfl,by rw[HS.out];simp[Wh.acc,Wh.num,show ¬(127<0)by omega],rfl⟩
     case round =>
      obtain⟨k,hk,rfl,rfl,rfl⟩:=hrel;by_cases hkn:k<n
      ·have hc1:=Hcell.out k (by rw[<-HN.out];exact hkn);have hz:=zAY Hlt.out k;obtain⟨hs1,hs2⟩:=HSt.out k hkn;have Hs1:=hid hs1;clear hs1;generalize L.getD k 0=z at *;generalize Wh.acc S L k=m at *;go_wp2
       go_roundw
       case rel=>exact⟨k+1,by omega,by go_num,by rw[zB1,Hs1.out],trivial⟩
       case measure=>simp[intOf];omega
      ·obtain rfl:k=n:=by omega
       generalize hm:Wh.acc S L _=m at *;have Hm1:=hid hm;clear hm;go_wp2
       go_ret2
       exact⟨rfl,by rw[<-Hl.out,<-zBp];rfl⟩
    ·have c1':=c1 h;clear c1;go_enter func115,ntmps115
     go_wp2
     go_loopw [4,46] (fun u i wr=>∃ k:Nat,k<=n/\i=.int .i64 k/\u=.int .u64 (Wh.acc S L k:Nat)/\wr=w) (fun _ i _=>n-(intOf i).toNat)
     case atStart=>exact⟨0,Nat.zero_le _,rfl,by rw[HS.out];simp[Wh.acc,Wh.num,show 127<255 by omega],rfl⟩
     case round =>
      obtain⟨k,hk,rfl,rfl,rfl⟩:=hrel;by_cases hkn:k<n
      ·have hc1:=Hcell.out k (by rw[<-HN.out];exact hkn);have hz:=zAY Hlt.out k;obtain⟨hs1,hs2⟩:=HSt.out k hkn;have Hs1:=hid hs1;clear hs1;generalize L.getD k 0=z at *;generalize Wh.acc S L k=m at *;go_wp2
       go_roundw
       case rel=>exact⟨k+1,by omega,by go_num,by rw[zB1,Hs1.out],trivial⟩
       case measure=>simp[intOf];omega
      ·obtain rfl:k=n:=by omega
       generalize hm:Wh.acc S L _=m at *;have Hm1:=hid hm;clear hm;go_wp2
       go_ret2
       exact⟨rfl,by rw[<-Hl.out,<-zBp];rfl⟩
    ·have c1':=c1 h;clear c1;by_cases hs:127<x
     ·go_enter func115,ntmps115
      go_wp2
      go_loopw [4,46] (fun u i wr=>∃ k:Nat,k<=n/\i=.int .i64 k/\u=.int .u64 (Wh.acc S L k:Nat)/\wr=w) (fun _ i _=>n-(intOf i).toNat)
      case atStart=>exact⟨0,Nat.zero_le _,rfl,by rw[HS.out];simp[Wh.acc,Wh.num,hs],rfl⟩
      case round =>
       obtain⟨k,hk,rfl,rfl,rfl⟩:=hrel;by_cases hkn:k<n
       ·have hc1:=Hcell.out k (by rw[<-HN.out];exact hkn);have hz:=zAY Hlt.out k;obtain⟨hs1,hs2⟩:=HSt.out k hkn;have Hs1:=hid hs1;clear hs1;generalize L.getD k 0=z at *;generalize Wh.acc S L k=m at *;go_wp2
        go_roundw
        case rel=>exact⟨k+1,by omega,by go_num,by rw[zB1,Hs1.out],trivial⟩
        case measure=>simp[intOf];omega
       ·obtain rfl:k=n:=by omega
        generalize hm:Wh.acc S L _=m at *;have Hm1:=hid hm;clear hm;go_wp2
        go_ret2
        exact⟨rfl,by rw[<-Hl.out,<-zBp];rfl⟩
     ·go_enter func115,ntmps115
      go_wp2
      go_loopw [4,46] (fun u i wr=>∃ k:Nat,k<=n/\i=.int .i64 k/\u=.int .u64 (Wh.acc S L k:Nat)/\wr=w) (fun _ i _=>n-(intOf i).toNat)
      case atStart=>exact⟨0,Nat.zero_le _,rfl,by rw[HS.out];simp[Wh.acc,Wh.num,hs],rfl⟩
      case round =>
       obtain⟨k,hk,rfl,rfl,rfl⟩:=hrel;by_cases hkn:k<n
       ·have hc1:=Hcell.out k (by rw[<-HN.out];exact hkn);have hz:=zAY Hlt.out k;obtain⟨hs1,hs2⟩:=HSt.out k hkn;have Hs1:=hid hs1;clear hs1;generalize L.getD k 0=z at *;generalize Wh.acc S L k=m at *;go_wp2
        go_roundw
        case rel=>exact⟨k+1,by omega,by go_num,by rw[zB1,Hs1.out],trivial⟩
        case measure=>simp[intOf];omega
       ·obtain rfl:k=n:=by omega
        generalize hm:Wh.acc S L _=m at *;have Hm1:=hid hm;clear hm;go_wp2
        go_ret2
        exact⟨rfl,by rw[<-Hl.out,<-zBp];rfl⟩
namespace Na
structure Sb where
 k:Int
 sp:ByteArray
 nm:ByteArray
def val (s:Sb):Value:=.agg #[.int .i64 s.k,.string s.sp,.string s.nm]
def word (k:Int):ByteArray:=if k=1 then⟨#[110,111,100,101]⟩else if k=2 then⟨#[119,111,114,107,108,111,97,100]⟩else if k=3 then⟨#[111,112,101,114,97,116,111,114]⟩else if k=4 then⟨#[98,111,111,116]⟩else if k=5 then⟨#[99,97]⟩else⟨#[]⟩
def right (s:Sb):Bool:=decide (1<=s.k/\s.k<=5)&&(Pt.label (strL s.nm)&&(if s.k=2 then Pt.label (strL s.sp)else decide (s.sp=⟨#[]⟩)))
theorem toList_inj {a b:ByteArray} (h:a.toList=b.toList):a=b:=by
 rw[ByteArray.toList_eq,ByteArray.toList_eq]at h;obtain⟨a⟩:=a;obtain⟨b⟩:=b;exact congrArg ByteArray.mk (Array.toList_inj.1 h)
end Na
theorem retB7 {a b:Bool} (h:a=b):Ending.returned (.bool a)=.returned (.bool b):=by rw[h]
namespace Pt
theorem label_false {l:List Nat} (k:Nat) (hk:k<l.length) (h:okc (l.getD k 0)=false):label l=false:=by
 have:l.all okc=false:=by
  rw[List.all_eq_false];refine⟨l.getD k 0,?_,by rw[h];decide⟩;rw[List.getD_eq_getElem?_getD,List.getElem?_eq_getElem hk];exact List.getElem_mem hk
 rw[label,this,Bool.and_false,Bool.and_false,Bool.and_false]
theorem label_true {l:List Nat} (h1:1<=l.length/\l.length<=24) (h2:l.getD 0 0≠45) (h3:l.getD (l.length-1) 0≠45) (h:∀ k,k<l.length->okc (l.getD k 0)=true):label l=true:=by
 have:l.all okc=true:=by
  rw[List.all_eq_true];intro x hx;obtain⟨k,hk,rfl⟩:=List.getElem_of_mem hx;have:=h k hk;rw[List.getD_eq_getElem?_getD,List.getElem?_eq_getElem hk]at this;exact this
 rw[label,this,decide_eq_true h1,decide_eq_true h2,decide_eq_true h3];rfl
theorem label_head {l:List Nat} (h:¬(1<=l.length/\l.length<=24)∨l.getD 0 0=45∨l.getD (l.length-1) 0=45):label l=false:=by
 rcases h with h|h|h
 ·rw[label,decide_eq_false h,Bool.false_and]
 ·rw[label,decide_eq_false (show ¬ l.getD 0 0≠45 from fun e=>e h),Bool.false_and,Bool.and_false]
 ·rw[label,decide_eq_false (show ¬ l.getD (l.length-1) 0≠45 from fun e=>e h),Bool.false_and,Bool.and_false,Bool.and_false]
theorem okc_iff (c:Nat):okc c=true↔(97<=c/\c<=122)∨(48<=c/\c<=57)∨c=45:=by simp[okc]
end Pt
theorem zCW (s:ByteArray) (hs:s.size<=1000000) (w:World):Calls prog 45 #[.string s] w fun e w'=>e=.returned (.bool (Pt.label (strL s)))/\w'=w:=by
 obtain⟨L,hL⟩:∃ L,L=strL s:=⟨_,rfl⟩
 obtain⟨n,hn⟩:∃ n,n=s.size:=⟨_,rfl⟩
 have hLn:L.length=n:=by rw[hL,zAx,hn]
 have h8:∀ x∈L,x<256:=by rw[hL];exact strL_lt s
 have HIx:Hid (∀ j:Nat,j<n->∀ W,(Instr.index 9 (.string s) (.int .i64 (j:Int))).run prog W=.ok (.int .u8 (L.getD j 0:Nat)) W):=hid (fun j hj W=>by
  have hjs:j<s.size:=by omega
  have h2:(0:Int)<=(j:Int)/\(j:Int)<(s.size:Int):=⟨by omega,by omega⟩;have e:(s[j]'hjs).toNat=L.getD j 0:=by rw[hL];exact zCo s j hjs
  rw[run_index_string W _ s .i64 j underlying9,dif_pos h2,<-e];rfl)
 have hsz:(s.size:Int)=(n:Int):=by rw[hn]
 have H8:Hid (∀ j,L.getD j 0<256):=hid (fun j=>by
  rcases Nat.lt_or_ge j L.length with h|h
  ·rw[List.getD_eq_getElem?_getD,List.getElem?_eq_getElem h];exact h8 _ (List.getElem_mem h)
  ·rw[List.getD_eq_getElem?_getD,List.getElem?_eq_none h];decide)
 have HH:Hid (¬(1<=n/\n<=24)∨L.getD 0 0=45∨L.getD (n-1) 0=45->Pt.label L=false):=hid (fun h=>Pt.label_head (by rw[hLn];exact h));have HF:Hid (∀ k,k<n->Pt.okc (L.getD k 0)=false->Pt.label L=false):=hid (fun k hk h=>Pt.label_false k (by omega) h);have HT:Hid (1<=n/\n<=24->L.getD 0 0≠45->L.getD (n-1) 0≠45->(∀ k,k<n->Pt.okc (L.getD k 0)=true)->Pt.label L=true):=hid (fun h1 h2 h3 h=>Pt.label_true (by rw[hLn];exact h1) h2 (by rw[hLn];exact h3) (fun k hk=>h k (by omega)));rw[<-hL];obtain⟨R,hR⟩:∃ R,R=Pt.label L:=⟨_,rfl⟩
 rw[<-hR]at HH HF HT ⊢;clear hR hL h8 hLn;rcases Nat.lt_or_ge n 1 with n1|n1
 ·have HFF:=hid (HH.out (.inl (by omega)));go_enter func45,ntmps45
  go_wp2
  go_ret
  exact⟨retB7 HFF.out.symm,rfl⟩
 ·rcases Nat.lt_or_ge 24 n with n2|n2
  ·have HFF:=hid (HH.out (.inl (by omega)));go_enter func45,ntmps45
   go_wp2
   go_ret
   exact⟨retB7 HFF.out.symm,rfl⟩
  ·have i0:(Instr.index 9 (.string s) (.int .i64 0)).run prog w=.ok (.int .u8 ((L.getD 0 0:Nat):Int)) w:=HIx.out 0 (by omega) w;have b0:=H8.out 0;by_cases q0:L.getD 0 0=45
   ·have HFF:=hid (HH.out (.inr (.inl q0)));rw[q0,show((45:Nat):Int)=45 from rfl]at i0;go_enter func45,ntmps45
    go_wp2
    go_ret
    exact⟨retB7 HFF.out.symm,rfl⟩
   ·have i1:=HIx.out (n-1) (by omega) w;rw[show(((n-1:Nat):Nat):Int)=(n:Int)-1 by omega]at i1;have hne0:(((L.getD 0 0:Nat):Int)==45)=false:=beq_eq_false_iff_ne.2 (by omega);by_cases q1:L.getD (n-1) 0=45
    ·have HFF:=hid (HH.out (.inr (.inr q1)));rw[q1,show((45:Nat):Int)=45 from rfl]at i1;generalize L.getD 0 0=x0 at *;clear q0;go_enter func45,ntmps45
     go_wp2
     go_ret
     exact⟨retB7 HFF.out.symm,rfl⟩
    ·have hne1:(((L.getD (n-1) 0:Nat):Int)==45)=false:=beq_eq_false_iff_ne.2 (by omega);have b1:=H8.out (n-1);have HTT:=hid (HT.out ⟨n1,n2⟩ q0 q1);generalize L.getD 0 0=x0 at *;generalize L.getD (n-1) 0=x1 at *;clear q0 q1;go_enter func45,ntmps45
     go_wp2
     clear i0 i1 b0 b1;go_loopw [3] (fun i wr=>∃ k:Nat,k<=n/\i=.int .i64 (k:Int)/\wr=w/\∀ j,j<k->Pt.okc (L.getD j 0)=true) (fun i _=>n-(intOf i).toNat)
     case atStart=>exact⟨0,Nat.zero_le _,rfl,rfl,fun j hj=>absurd hj (Nat.not_lt_zero _)⟩
     case round =>
      obtain⟨k,hk,rfl,rfl,hall⟩:=hrel;have HAll:=hid hall;clear hall;by_cases hkn:k<n
      ·have ix:=HIx.out k hkn wr;have hb:=H8.out k;have HFk:=hid (HF.out k hkn);generalize hx:L.getD k 0=x at *;have HX:=hid hx;clear hx;have HFb:Hid (¬((97<=x/\x<=122)∨(48<=x/\x<=57)∨x=45)->R=false):=hid (fun h=>HFk.out (by rw[<-Bool.not_eq_true,Pt.okc_iff];exact h));have HNx:Hid ((97<=x/\x<=122)∨(48<=x/\x<=57)∨x=45->∀ j,j<k+1->Pt.okc (L.getD j 0)=true):=hid (fun h j hj=>by
        rcases Nat.lt_or_ge j k with h2|h2
        ·exact HAll.out j h2
        ·obtain rfl:j=k:=by omega
         rw[HX.out,Pt.okc_iff];exact h)
       by_cases e45:x=45
       ·have HOk:=hid (HNx.out (.inr (.inr e45)));clear HX;subst e45;go_wp2
        go_roundw
        case rel=>exact⟨k+1,by omega,by go_num,trivial,HOk.out⟩
        case measure=>simp[intOf];omega
       ·have hne:((x:Int) != 45)=true:=by simp;omega
        clear e45;rcases Nat.lt_or_ge x 48 with c1|c1
        ·have HFF:=hid (HFb.out (by intro h;rcases h with h|h|h <;> first|omega|(subst h;simp at hne)));go_wp2
         go_ret
         exact⟨retB7 HFF.out.symm,rfl⟩
        ·rcases Nat.lt_or_ge 57 x with c2|c2
         ·rcases Nat.lt_or_ge x 97 with c3|c3
          ·have HFF:=hid (HFb.out (by omega));go_wp2
           go_ret
           exact⟨retB7 HFF.out.symm,rfl⟩
          ·rcases Nat.lt_or_ge 122 x with c4|c4
           ·have HFF:=hid (HFb.out (by omega));go_wp2
            go_ret
            exact⟨retB7 HFF.out.symm,rfl⟩
           ·have HOk:=hid (HNx.out (.inl ⟨c3,c4⟩));go_wp2
            go_roundw
            case rel=>exact⟨k+1,by omega,by go_num,trivial,HOk.out⟩
            case measure=>simp[intOf];omega
         ·have HOk:=hid (HNx.out (.inr (.inl ⟨c1,c2⟩)));go_wp2
          go_roundw
          case rel=>exact⟨k+1,by omega,by go_num,trivial,HOk.out⟩
          case measure=>simp[intOf];omega
      ·obtain rfl:k=n:=by omega
       have HFF:=hid (HTT.out HAll.out);go_wp2
       go_ret
       exact⟨retB7 HFF.out.symm,rfl⟩
namespace Pt
def acc (c0:Nat) (l:List Nat):Nat->Nat
 |0=>c0
 |j+1=>acc c0 l j*64+(l.getD (j+1) 0-128)
theorem acc_zero (c0:Nat) (l:List Nat):acc c0 l 0=c0:=rfl
theorem acc_succ (c0:Nat) (l:List Nat) (j:Nat):acc c0 l (j+1)=acc c0 l j*64+(l.getD (j+1) 0-128):=rfl
def Con (l:List Nat) (j:Nat):Prop:=∀ t,t<j->128<=l.getD (t+1) 0/\l.getD (t+1) 0<=191
theorem con_succ {l:List Nat} {j:Nat} (h:Con l j) (h2:128<=l.getD (j+1) 0/\l.getD (j+1) 0<=191):Con l (j+1):=fun t ht=>by
 rcases Nat.lt_or_ge t j with k|k
 ·exact h t k
 ·obtain rfl:t=j:=by omega
  exact h2
theorem acc_le {l:List Nat} (h8:∀ j,l.getD j 0<256) {c0:Nat} (hc:c0<=31):∀ j,j<=3->acc c0 l j<=10000000:=by
 have x1:=h8 1;have x2:=h8 2;have x3:=h8 3;have e0:acc c0 l 0=c0:=rfl;have e1:acc c0 l 1=acc c0 l 0*64+(l.getD 1 0-128):=rfl;have e2:acc c0 l 2=acc c0 l 1*64+(l.getD 2 0-128):=rfl;have e3:acc c0 l 3=acc c0 l 2*64+(l.getD 3 0-128):=rfl;have a1:acc c0 l 1<=2200:=by omega
 have a2:acc c0 l 2<=141000:=by omega
 have a3:acc c0 l 3<=10000000:=by omega
 intro j hj
 match j,hj with
 |0,_=>omega
 |1,_=>omega
 |2,_=>omega
 |3,_=>exact a3
def good (least v:Nat):Prop:=least<=v/\v<=1114111/\¬(55296<=v/\v<57344)
theorem class2 (l:List Nat) (h1:192<=l.getD 0 0) (h2:l.getD 0 0<224):(1<l.length/\Con l 1/\good 128 (acc (l.getD 0 0-192) l 1)->step l=some 2)/\(¬(1<l.length/\Con l 1/\good 128 (acc (l.getD 0 0-192) l 1))->step l=none):=by
 have e:acc (l.getD 0 0-192) l 1=(l.getD 0 0-192)*64+(l.getD 1 0-128):=rfl;rw[step2 l h1 h2,e];unfold good;constructor
 ·rintro⟨a,b,c⟩;have b0:=b 0 (by decide);rw[if_pos ⟨a,b0,c.1⟩]
 ·intro h;rw[if_neg];rintro⟨a,b,c⟩;exact h ⟨a,fun t ht=>by obtain rfl:t=0:=(by omega);exact b,by omega⟩
theorem class3 (l:List Nat) (h1:224<=l.getD 0 0) (h2:l.getD 0 0<240):(2<l.length/\Con l 2/\good 2048 (acc (l.getD 0 0-224) l 2)->step l=some 3)/\(¬(2<l.length/\Con l 2/\good 2048 (acc (l.getD 0 0-224) l 2))->step l=none):=by
 have e:acc (l.getD 0 0-224) l 2=((l.getD 0 0-224)*64+(l.getD 1 0-128))*64+(l.getD 2 0-128):=rfl;rw[step3 l h1 h2,e];unfold good;constructor
 ·rintro⟨a,b,c⟩;have b0:=b 0 (by decide);have b1:=b 1 (by decide);rw[if_pos ⟨a,b0,b1,c.1,c.2.2⟩]
 ·intro h;rw[if_neg];rintro⟨a,b,c,d,e⟩;exact h ⟨a,fun t ht=>by match t,ht with|0,_=>exact b|1,_=>exact c,by omega⟩
theorem class4 (l:List Nat) (h1:240<=l.getD 0 0) (h2:l.getD 0 0<248):(3<l.length/\Con l 3/\good 65536 (acc (l.getD 0 0-240) l 3)->step l=some 4)/\(¬(3<l.length/\Con l 3/\good 65536 (acc (l.getD 0 0-240) l 3))->step l=none):=by
 have e:acc (l.getD 0 0-240) l 3=(((l.getD 0 0-240)*64+(l.getD 1 0-128))*64+(l.getD 2 0-128))*64+(l.getD 3 0-128):=rfl;rw[step4 l h1 h2,e];unfold good;constructor
 ·rintro⟨a,b,c⟩;have b0:=b 0 (by decide);have b1:=b 1 (by decide);have b2:=b 2 (by decide);rw[if_pos ⟨a,b0,b1,b2,c.1,c.2.1⟩]
 ·intro h;rw[if_neg];rintro⟨a,b,c,d,e,f⟩;exact h ⟨a,fun t ht=>by match t,ht with|0,_=>exact b|1,_=>exact c|2,_=>exact d,by omega⟩
end Pt
theorem zEZ (s:ByteArray) (hs:s.size<=1000000) (w:World):Calls prog 131 #[.string s] w fun e w'=>e=.returned (.bool (Pt.plain (strL s)))/\w'=w:=by
 obtain⟨L,hL⟩:∃ L,L=strL s:=⟨_,rfl⟩
 obtain⟨n,hn⟩:∃ n,n=s.size:=⟨_,rfl⟩
 have hLn:L.length=n:=by rw[hL,zAx,hn]
 have h8:∀ x∈L,x<256:=by rw[hL];exact strL_lt s
 have HIx:Hid (∀ j:Nat,j<n->∀ W,(Instr.index 9 (.string s) (.int .i64 (j:Int))).run prog W=.ok (.int .u8 (L.getD j 0:Nat)) W):=hid (fun j hj W=>by
  have hjs:j<s.size:=by omega
  have h2:(0:Int)<=(j:Int)/\(j:Int)<(s.size:Int):=⟨by omega,by omega⟩;have e:(s[j]'hjs).toNat=L.getD j 0:=by rw[hL];exact zCo s j hjs
  rw[run_index_string W _ s .i64 j underlying9,dif_pos h2,<-e];rfl)
 have hsz:(s.size:Int)=(n:Int):=by rw[hn]
 have HD:Hid (∀ p j,(L.drop p).getD j 0=L.getD (p+j) 0):=hid (fun p j=>by simp[List.getD_eq_getElem?_getD]);have HDl:Hid (∀ p,(L.drop p).length=n-p):=hid (fun p=>by rw[List.length_drop,hLn]);have H8:Hid (∀ j,L.getD j 0<256):=hid (fun j=>by
  rcases Nat.lt_or_ge j L.length with h|h
  ·rw[List.getD_eq_getElem?_getD,List.getElem?_eq_getElem h];exact h8 _ (List.getElem_mem h)
  ·rw[List.getD_eq_getElem?_getD,List.getElem?_eq_none h];decide)
 have HSt:Hid (∀ p,p<n->Pt.plain (L.drop p)=match Pt.step (L.drop p)with|none=>false|some k=>Pt.plain (L.drop (p+k))):=hid (fun p hp=>by
  have:=Pt.plain_step (l:=L.drop p) (fun x hx=>h8 x (List.mem_of_mem_drop hx)) (by intro e;have:=congrArg List.length e;rw[List.length_drop]at this;simp at this;omega);rw[this];cases Pt.step (L.drop p)with
  |none=>rfl
  |some k=>simp only[List.drop_drop])
 have HEnd:Hid (Pt.plain (L.drop n)=true):=hid (by rw[List.drop_eq_nil_of_le (by omega)];rfl);have H0:Hid (Pt.plain L=Pt.plain (L.drop 0)):=hid (by rw[List.drop_zero]);rw[<-hL];have hn1:n<=1000000:=by omega
 obtain⟨R,hR⟩:∃ R,R=Pt.plain L:=⟨_,rfl⟩
 rw[<-hR]at H0 ⊢;clear hR hL h8 hLn hs;go_enter func131,ntmps131
 go_wp2
 go_loopw [3] (fun i wr=>∃ p:Nat,p<=n/\i=.int .i64 (p:Int)/\wr=w/\R=Pt.plain (L.drop p)) (fun i _=>n-(intOf i).toNat)
 case atStart=>exact⟨0,Nat.zero_le _,rfl,rfl,H0.out⟩
 case round =>
  obtain⟨p,hp,rfl,rfl,hpl⟩:=hrel;have HPl:=hid hpl;clear hpl;by_cases hpn:p<n
  ·have ix:=HIx.out p hpn wr;have hst:=HSt.out p hpn;have HG0:Hid ((L.drop p).getD 0 0=L.getD p 0):=hid (by rw[HD.out,Nat.add_zero]);have hb8:=H8.out p;have HSt1:=hid hst;clear hst;obtain⟨b,hb⟩:∃ b,b=L.getD p 0:=⟨_,rfl⟩
   rw[<-hb]at ix hb8 HG0;have HBb:=hid hb;clear hb;rcases Nat.lt_or_ge b 128 with c1|c1
   ·by_cases c0:b<32∨b=127
    ·have HF:Hid (R=false):=hid (by rw[HPl.out,HSt1.out,Pt.step1 _ (by rw[HG0.out];exact c1),if_pos (by rw[HG0.out];exact c0)]);rcases c0 with c0|c0
     ·go_wp2
      go_ret
      exact⟨retB7 HF.out.symm,rfl⟩
     ·subst c0;go_wp2
      go_ret
      exact⟨retB7 HF.out.symm,rfl⟩
    ·have HT:Hid (R=Pt.plain (L.drop (p+1))):=hid (by rw[HPl.out,HSt1.out,Pt.step1 _ (by rw[HG0.out];exact c1),if_neg (by rw[HG0.out];exact c0)]);have c2:¬ b<32:=fun h=>c0 (.inl h)
     have c3:((b:Int)==127)=false:=beq_eq_false_iff_ne.2 (fun h=>c0 (.inr (by omega)));clear c0;go_wp2
     obtain⟨wo,hwo⟩:∃ wo:World,wo=wr:=⟨_,rfl⟩
     rw[<-hwo];have HWo:=hid hwo;clear hwo ix;go_loopw [3,4,5] (fun i c m wr=>i=.int .i64 ((p+1:Nat):Int)/\c=.int .i64 (b:Int)/\m=.int .i64 0/\wr=wo) (fun _ _ m _=>(intOf m).toNat)
     case atStart=>exact⟨by go_num,rfl,rfl,rfl⟩
     case round =>
      obtain⟨rfl,rfl,rfl,rfl⟩:=hrel;go_wp2
      go_roundw
      case rel=>exact⟨p+1,by omega,by go_num,HWo.out,HT.out⟩
      case measure=>simp[intOf];omega
   ·have HX:Hid (128<=b/\b<192∨248<=b->R=false):=hid (fun h=>by rw[HPl.out,HSt1.out,Pt.stepX _ (by rw[HG0.out];exact h) (by rw[HG0.out];exact hb8)]);rcases Nat.lt_or_ge b 192 with c2|c2
    ·have HFF:Hid (R=false):=hid (HX.out (.inl ⟨c1,c2⟩));go_wp2
     go_ret
     exact⟨retB7 HFF.out.symm,rfl⟩
    ·clear c1;have c1:=c2;clear c2;rcases Nat.lt_or_ge b 224 with c2|c2
     ·have HC:=hid (Pt.class2 (L.drop p) (by rw[HG0.out];exact c1) (by rw[HG0.out];exact c2));rw[HG0.out,HDl.out]at HC;have HF:Hid (¬(1<n-p/\Pt.Con (L.drop p) 1/\Pt.good 128 (Pt.acc (b-192) (L.drop p) 1))->R=false):=hid (fun h=>by rw[HPl.out,HSt1.out,HC.out.2 h]);have HT:Hid (1<n-p/\Pt.Con (L.drop p) 1/\Pt.good 128 (Pt.acc (b-192) (L.drop p) 1)->R=Pt.plain (L.drop (p+2))):=hid (fun h=>by rw[HPl.out,HSt1.out,HC.out.1 h]);have HAl:=hid (Pt.acc_le (l:=L.drop p) (fun j=>by rw[HD.out];exact H8.out _) (c0:=b-192) (by omega));have HA:Hid (∀ j,Pt.acc (b-192) (L.drop p) (j+1)=Pt.acc (b-192) (L.drop p) j*64+(L.getD (p+(j+1)) 0-128)):=hid (fun j=>by rw[Pt.acc_succ,HD.out]);have HA0:Hid (Pt.acc (b-192) (L.drop p) 0=b-192):=hid (Pt.acc_zero _ _);have HCs:Hid (∀ j,Pt.Con (L.drop p) j->128<=L.getD (p+(j+1)) 0/\L.getD (p+(j+1)) 0<=191->Pt.Con (L.drop p) (j+1)):=hid (fun j h h2=>Pt.con_succ h (by rw[HD.out];exact h2));have HCb:Hid (∀ j,j<1->¬(128<=L.getD (p+(j+1)) 0/\L.getD (p+(j+1)) 0<=191)->¬ Pt.Con (L.drop p) 1):=hid (fun j hj h h2=>h (by have:=h2 j hj;rw[HD.out]at this;exact this));have HC0:Hid (Pt.Con (L.drop p) 0):=hid (fun t ht=>absurd ht (Nat.not_lt_zero _));go_wp2
      obtain⟨wo,hwo⟩:∃ wo:World,wo=wr:=⟨_,rfl⟩
      rw[<-hwo];have HWo:=hid hwo;clear hwo ix;generalize hAcc:Pt.acc (b-192) (L.drop p)=ac at *;generalize Pt.Con (L.drop p)=CON at *;simp only[show decide ((b:Int)<128)=false from decide_eq_false (by omega),show decide ((b:Int)<224)=true from decide_eq_true (by omega)];go_loopw [3,4,5] (fun i c m wr=>∃ j:Nat,j<=1/\i=.int .i64 ((p+1+j:Nat):Int)/\c=.int .i64 ((ac j:Nat):Int)/\m=.int .i64 ((1-j:Nat):Int)/\p+1+j<=n/\CON j/\wr=wo) (fun _ _ m _=>(intOf m).toNat)
      case atStart=>exact⟨0,Nat.zero_le _,by go_num,by have:=HA0.out;go_num,by go_num,by omega,HC0.out,rfl⟩
      case round =>
       obtain⟨j,hj,rfl,rfl,rfl,hjn,hco,rfl⟩:=hrel;have HCo:=hid hco;have ha:=HAl.out j (by omega);obtain⟨a,hac⟩:∃ a,a=ac j:=⟨_,rfl⟩
       rw[<-hac]at ha ⊢;have HAc:=hid hac;obtain⟨q,hq⟩:∃ q,q=p+1+j:=⟨_,rfl⟩
       rw[<-hq]at hjn ⊢;have HQ:=hid hq;obtain⟨m,hm⟩:∃ m,m=1-j:=⟨_,rfl⟩
       rw[<-hm];have HM:=hid hm;have hm3:m<=3:=by omega
       clear hco hac;by_cases hjj:j<1
       ·have hmp:0<m:=by omega
        clear hm;by_cases hqn:q=n
        ·have HFF:Hid (R=false):=hid (HF.out (by have:=HQ.out;omega));subst hqn;clear hq;go_wp2
         go_ret
         exact⟨retB7 HFF.out.symm,HWo.out⟩
        ·have hql:q<n:=by omega
         have iy:=HIx.out q hql wr;have hb2:=H8.out q;have hqne:((q:Int)==(n:Int))=false:=beq_eq_false_iff_ne.2 (by omega);have hqe:p+(j+1)=q:=by omega
         have HAj:=hid (HA.out j);have HCsj:=hid (HCs.out j HCo.out);have HCbj:=hid (HCb.out j hjj);rw[hqe]at HAj HCsj HCbj;generalize L.getD q 0=y at *;clear hq hqn hqe;by_cases hy:128<=y/\y<=191
         ·obtain⟨y1,y2⟩:=hy;have HCn:=hid (HCsj.out ⟨y1,y2⟩);go_wp2
          go_roundw
          case rel=>exact⟨j+1,by omega,by have:=HQ.out;go_num,by rw[HAj.out,<-HAc.out];go_num,by have:=HM.out;go_num,by have:=HQ.out;omega,HCn.out,trivial⟩
          case measure=>simp[intOf];omega
         ·have HFF:Hid (R=false):=hid (HF.out (fun h=>HCbj.out hy h.2.1));rcases Nat.lt_or_ge y 128 with y1|y1
          ·clear hy;go_wp2
           go_ret
           exact⟨retB7 HFF.out.symm,HWo.out⟩
          ·have y2:191<y:=by omega
           clear hy;go_wp2
           go_ret
           exact⟨retB7 HFF.out.symm,HWo.out⟩
       ·obtain rfl:j=1:=by omega
        obtain rfl:m=0:=by omega
        have HFg:Hid (¬ Pt.good 128 a->R=false):=hid (fun h=>HF.out (fun h2=>h (by rw[HAc.out];exact h2.2.2)));have HTg:Hid (Pt.good 128 a->R=Pt.plain (L.drop (p+2))):=hid (fun h=>HT.out ⟨by have:=HQ.out;omega,HCo.out,by rw[<-HAc.out];exact h⟩);clear hq hm;rcases Nat.lt_or_ge a 128 with g1|g1
        ·have HFF:Hid (R=false):=hid (HFg.out (fun h=>by have:=h.1;omega));go_wp2
         go_ret
         exact⟨retB7 HFF.out.symm,HWo.out⟩
        ·rcases Nat.lt_or_ge 1114111 a with g2|g2
         ·have HFF:Hid (R=false):=hid (HFg.out (fun h=>by have:=h.2.1;omega));go_wp2
          go_ret
          exact⟨retB7 HFF.out.symm,HWo.out⟩
         ·rcases Nat.lt_or_ge a 55296 with g3|g3
          ·have HTT:=hid (HTg.out ⟨g1,g2,fun h=>by omega⟩);go_wp2
           go_roundw
           case rel=>exact⟨p+2,by have:=HQ.out;omega,by have:=HQ.out;go_num,HWo.out,HTT.out⟩
           case measure=>have:=HQ.out;simp[intOf];omega
          ·rcases Nat.lt_or_ge a 57344 with g4|g4
           ·have HFF:Hid (R=false):=hid (HFg.out (fun h=>h.2.2 ⟨g3,g4⟩));go_wp2
            go_ret
            exact⟨retB7 HFF.out.symm,HWo.out⟩
           ·have HTT:=hid (HTg.out ⟨g1,g2,fun h=>by omega⟩);go_wp2
            go_roundw
            case rel=>exact⟨p+2,by have:=HQ.out;omega,by have:=HQ.out;go_num,HWo.out,HTT.out⟩
            case measure=>have:=HQ.out;simp[intOf];omega
     ·clear c1;rcases Nat.lt_or_ge b 240 with c3|c3
      ·have HC:=hid (Pt.class3 (L.drop p) (by rw[HG0.out];exact c2) (by rw[HG0.out];exact c3));rw[HG0.out,HDl.out]at HC;have HF:Hid (¬(2<n-p/\Pt.Con (L.drop p) 2/\Pt.good 2048 (Pt.acc (b-224) (L.drop p) 2))->R=false):=hid (fun h=>by rw[HPl.out,HSt1.out,HC.out.2 h]);have HT:Hid (2<n-p/\Pt.Con (L.drop p) 2/\Pt.good 2048 (Pt.acc (b-224) (L.drop p) 2)->R=Pt.plain (L.drop (p+3))):=hid (fun h=>by rw[HPl.out,HSt1.out,HC.out.1 h]);have HAl:=hid (Pt.acc_le (l:=L.drop p) (fun j=>by rw[HD.out];exact H8.out _) (c0:=b-224) (by omega));have HA:Hid (∀ j,Pt.acc (b-224) (L.drop p) (j+1)=Pt.acc (b-224) (L.drop p) j*64+(L.getD (p+(j+1)) 0-128)):=hid (fun j=>by rw[Pt.acc_succ,HD.out]);have HA0:Hid (Pt.acc (b-224) (L.drop p) 0=b-224):=hid (Pt.acc_zero _ _);have HCs:Hid (∀ j,Pt.Con (L.drop p) j->128<=L.getD (p+(j+1)) 0/\L.getD (p+(j+1)) 0<=191->Pt.Con (L.drop p) (j+1)):=hid (fun j h h2=>Pt.con_succ h (by rw[HD.out];exact h2));have HCb:Hid (∀ j,j<2->¬(128<=L.getD (p+(j+1)) 0/\L.getD (p+(j+1)) 0<=191)->¬ Pt.Con (L.drop p) 2):=hid (fun j hj h h2=>h (by have:=h2 j hj;rw[HD.out]at this;exact this));have HC0:Hid (Pt.Con (L.drop p) 0):=hid (fun t ht=>absurd ht (Nat.not_lt_zero _));go_wp2
       obtain⟨wo,hwo⟩:∃ wo:World,wo=wr:=⟨_,rfl⟩
       rw[<-hwo];have HWo:=hid hwo;clear hwo ix;generalize hAcc:Pt.acc (b-224) (L.drop p)=ac at *;generalize Pt.Con (L.drop p)=CON at *;simp only[show decide ((b:Int)<128)=false from decide_eq_false (by omega),show decide ((b:Int)<224)=false from decide_eq_false (by omega),show decide ((b:Int)<240)=true from decide_eq_true (by omega)];go_loopw [3,4,5] (fun i c m wr=>∃ j:Nat,j<=2/\i=.int .i64 ((p+1+j:Nat):Int)/\c=.int .i64 ((ac j:Nat):Int)/\m=.int .i64 ((2-j:Nat):Int)/\p+1+j<=n/\CON j/\wr=wo) (fun _ _ m _=>(intOf m).toNat)
       case atStart=>exact⟨0,Nat.zero_le _,by go_num,by have:=HA0.out;go_num,by go_num,by omega,HC0.out,rfl⟩
       case round =>
        obtain⟨j,hj,rfl,rfl,rfl,hjn,hco,rfl⟩:=hrel;have HCo:=hid hco;have ha:=HAl.out j (by omega);obtain⟨a,hac⟩:∃ a,a=ac j:=⟨_,rfl⟩
        rw[<-hac]at ha ⊢;have HAc:=hid hac;obtain⟨q,hq⟩:∃ q,q=p+1+j:=⟨_,rfl⟩
        rw[<-hq]at hjn ⊢;have HQ:=hid hq;obtain⟨m,hm⟩:∃ m,m=2-j:=⟨_,rfl⟩
        rw[<-hm];have HM:=hid hm;have hm3:m<=3:=by omega
        clear hco hac;by_cases hjj:j<2
        ·have hmp:0<m:=by omega
         clear hm;by_cases hqn:q=n
         ·have HFF:Hid (R=false):=hid (HF.out (by have:=HQ.out;omega));subst hqn;clear hq;go_wp2
          go_ret
          exact⟨retB7 HFF.out.symm,HWo.out⟩
         ·have hql:q<n:=by omega
          have iy:=HIx.out q hql wr;have hb2:=H8.out q;have hqne:((q:Int)==(n:Int))=false:=beq_eq_false_iff_ne.2 (by omega);have hqe:p+(j+1)=q:=by omega
          have HAj:=hid (HA.out j);have HCsj:=hid (HCs.out j HCo.out);have HCbj:=hid (HCb.out j hjj);rw[hqe]at HAj HCsj HCbj;generalize L.getD q 0=y at *;clear hq hqn hqe;by_cases hy:128<=y/\y<=191
          ·obtain⟨y1,y2⟩:=hy;have HCn:=hid (HCsj.out ⟨y1,y2⟩);go_wp2
           go_roundw
           case rel=>exact⟨j+1,by omega,by have:=HQ.out;go_num,by rw[HAj.out,<-HAc.out];go_num,by have:=HM.out;go_num,by have:=HQ.out;omega,HCn.out,trivial⟩
           case measure=>simp[intOf];omega
          ·have HFF:Hid (R=false):=hid (HF.out (fun h=>HCbj.out hy h.2.1));rcases Nat.lt_or_ge y 128 with y1|y1
           ·clear hy;go_wp2
            go_ret
            exact⟨retB7 HFF.out.symm,HWo.out⟩
           ·have y2:191<y:=by omega
            clear hy;go_wp2
            go_ret
            exact⟨retB7 HFF.out.symm,HWo.out⟩
        ·obtain rfl:j=2:=by omega
         obtain rfl:m=0:=by omega
         have HFg:Hid (¬ Pt.good 2048 a->R=false):=hid (fun h=>HF.out (fun h2=>h (by rw[HAc.out];exact h2.2.2)));have HTg:Hid (Pt.good 2048 a->R=Pt.plain (L.drop (p+3))):=hid (fun h=>HT.out ⟨by have:=HQ.out;omega,HCo.out,by rw[<-HAc.out];exact h⟩);clear hq hm;rcases Nat.lt_or_ge a 2048 with g1|g1
         ·have HFF:Hid (R=false):=hid (HFg.out (fun h=>by have:=h.1;omega));go_wp2
          go_ret
          exact⟨retB7 HFF.out.symm,HWo.out⟩
         ·rcases Nat.lt_or_ge 1114111 a with g2|g2
          ·have HFF:Hid (R=false):=hid (HFg.out (fun h=>by have:=h.2.1;omega));go_wp2
           go_ret
           exact⟨retB7 HFF.out.symm,HWo.out⟩
          ·rcases Nat.lt_or_ge a 55296 with g3|g3
           ·have HTT:=hid (HTg.out ⟨g1,g2,fun h=>by omega⟩);go_wp2
            go_roundw
            case rel=>exact⟨p+3,by have:=HQ.out;omega,by have:=HQ.out;go_num,HWo.out,HTT.out⟩
            case measure=>have:=HQ.out;simp[intOf];omega
           ·rcases Nat.lt_or_ge a 57344 with g4|g4
            ·have HFF:Hid (R=false):=hid (HFg.out (fun h=>h.2.2 ⟨g3,g4⟩));go_wp2
             go_ret
             exact⟨retB7 HFF.out.symm,HWo.out⟩
            ·have HTT:=hid (HTg.out ⟨g1,g2,fun h=>by omega⟩);go_wp2
             go_roundw
             case rel=>exact⟨p+3,by have:=HQ.out;omega,by have:=HQ.out;go_num,HWo.out,HTT.out⟩
             case measure=>have:=HQ.out;simp[intOf];omega
      ·clear c2;rcases Nat.lt_or_ge b 248 with c4|c4
       ·have HC:=hid (Pt.class4 (L.drop p) (by rw[HG0.out];exact c3) (by rw[HG0.out];exact c4));rw[HG0.out,HDl.out]at HC;have HF:Hid (¬(3<n-p/\Pt.Con (L.drop p) 3/\Pt.good 65536 (Pt.acc (b-240) (L.drop p) 3))->R=false):=hid (fun h=>by rw[HPl.out,HSt1.out,HC.out.2 h]);have HT:Hid (3<n-p/\Pt.Con (L.drop p) 3/\Pt.good 65536 (Pt.acc (b-240) (L.drop p) 3)->R=Pt.plain (L.drop (p+4))):=hid (fun h=>by rw[HPl.out,HSt1.out,HC.out.1 h]);have HAl:=hid (Pt.acc_le (l:=L.drop p) (fun j=>by rw[HD.out];exact H8.out _) (c0:=b-240) (by omega));have HA:Hid (∀ j,Pt.acc (b-240) (L.drop p) (j+1)=Pt.acc (b-240) (L.drop p) j*64+(L.getD (p+(j+1)) 0-128)):=hid (fun j=>by rw[Pt.acc_succ,HD.out]);have HA0:Hid (Pt.acc (b-240) (L.drop p) 0=b-240):=hid (Pt.acc_zero _ _);have HCs:Hid (∀ j,Pt.Con (L.drop p) j->128<=L.getD (p+(j+1)) 0/\L.getD (p+(j+1)) 0<=191->Pt.Con (L.drop p) (j+1)):=hid (fun j h h2=>Pt.con_succ h (by rw[HD.out];exact h2));have HCb:Hid (∀ j,j<3->¬(128<=L.getD (p+(j+1)) 0/\L.getD (p+(j+1)) 0<=191)->¬ Pt.Con (L.drop p) 3):=hid (fun j hj h h2=>h (by have:=h2 j hj;rw[HD.out]at this;exact this));have HC0:Hid (Pt.Con (L.drop p) 0):=hid (fun t ht=>absurd ht (Nat.not_lt_zero _));go_wp2
        obtain⟨wo,hwo⟩:∃ wo:World,wo=wr:=⟨_,rfl⟩
        rw[<-hwo];have HWo:=hid hwo;clear hwo ix;generalize hAcc:Pt.acc (b-240) (L.drop p)=ac at *;generalize Pt.Con (L.drop p)=CON at *;simp only[show decide ((b:Int)<128)=false from decide_eq_false (by omega),show decide ((b:Int)<224)=false from decide_eq_false (by omega),show decide ((b:Int)<240)=false from decide_eq_false (by omega),show decide ((b:Int)<248)=true from decide_eq_true (by omega)];go_loopw [3,4,5] (fun i c m wr=>∃ j:Nat,j<=3/\i=.int .i64 ((p+1+j:Nat):Int)/\c=.int .i64 ((ac j:Nat):Int)/\m=.int .i64 ((3-j:Nat):Int)/\p+1+j<=n/\CON j/\wr=wo) (fun _ _ m _=>(intOf m).toNat)
        case atStart=>exact⟨0,Nat.zero_le _,by go_num,by have:=HA0.out;go_num,by go_num,by omega,HC0.out,rfl⟩
        case round =>
         obtain⟨j,hj,rfl,rfl,rfl,hjn,hco,rfl⟩:=hrel;have HCo:=hid hco;have ha:=HAl.out j (by omega);obtain⟨a,hac⟩:∃ a,a=ac j:=⟨_,rfl⟩
         rw[<-hac]at ha ⊢;have HAc:=hid hac;obtain⟨q,hq⟩:∃ q,q=p+1+j:=⟨_,rfl⟩
         rw[<-hq]at hjn ⊢;have HQ:=hid hq;obtain⟨m,hm⟩:∃ m,m=3-j:=⟨_,rfl⟩
         rw[<-hm];have HM:=hid hm;have hm3:m<=3:=by omega
         clear hco hac;by_cases hjj:j<3
         ·have hmp:0<m:=by omega
          clear hm;by_cases hqn:q=n
          ·have HFF:Hid (R=false):=hid (HF.out (by have:=HQ.out;omega));subst hqn;clear hq;go_wp2
           go_ret
           exact⟨retB7 HFF.out.symm,HWo.out⟩
          ·have hql:q<n:=by omega
           have iy:=HIx.out q hql wr;have hb2:=H8.out q;have hqne:((q:Int)==(n:Int))=false:=beq_eq_false_iff_ne.2 (by omega);have hqe:p+(j+1)=q:=by omega
           have HAj:=hid (HA.out j);have HCsj:=hid (HCs.out j HCo.out);have HCbj:=hid (HCb.out j hjj);rw[hqe]at HAj HCsj HCbj;generalize L.getD q 0=y at *;clear hq hqn hqe;by_cases hy:128<=y/\y<=191
           ·obtain⟨y1,y2⟩:=hy;have HCn:=hid (HCsj.out ⟨y1,y2⟩);go_wp2
            go_roundw
            case rel=>exact⟨j+1,by omega,by have:=HQ.out;go_num,by rw[HAj.out,<-HAc.out];go_num,by have:=HM.out;go_num,by have:=HQ.out;omega,HCn.out,trivial⟩
            case measure=>simp[intOf];omega
           ·have HFF:Hid (R=false):=hid (HF.out (fun h=>HCbj.out hy h.2.1));rcases Nat.lt_or_ge y 128 with y1|y1
            ·clear hy;go_wp2
             go_ret
             exact⟨retB7 HFF.out.symm,HWo.out⟩
            ·have y2:191<y:=by omega
             clear hy;go_wp2
             go_ret
             exact⟨retB7 HFF.out.symm,HWo.out⟩
         ·obtain rfl:j=3:=by omega
          obtain rfl:m=0:=by omega
          have HFg:Hid (¬ Pt.good 65536 a->R=false):=hid (fun h=>HF.out (fun h2=>h (by rw[HAc.out];exact h2.2.2)));have HTg:Hid (Pt.good 65536 a->R=Pt.plain (L.drop (p+4))):=hid (fun h=>HT.out ⟨by have:=HQ.out;omega,HCo.out,by rw[<-HAc.out];exact h⟩);clear hq hm;rcases Nat.lt_or_ge a 65536 with g1|g1
          ·have HFF:Hid (R=false):=hid (HFg.out (fun h=>by have:=h.1;omega));go_wp2
           go_ret
           exact⟨retB7 HFF.out.symm,HWo.out⟩
          ·rcases Nat.lt_or_ge 1114111 a with g2|g2
           ·have HFF:Hid (R=false):=hid (HFg.out (fun h=>by have:=h.2.1;omega));go_wp2
            go_ret
            exact⟨retB7 HFF.out.symm,HWo.out⟩
           ·have HTT:=hid (HTg.out ⟨g1,g2,fun h=>by omega⟩);go_wp2
            go_roundw
            case rel=>exact⟨p+4,by have:=HQ.out;omega,by have:=HQ.out;go_num,HWo.out,HTT.out⟩
            case measure=>have:=HQ.out;simp[intOf];omega
       ·have HFF:Hid (R=false):=hid (HX.out (.inr c4));go_wp2
        go_ret
        exact⟨retB7 HFF.out.symm,rfl⟩
  ·obtain rfl:p=n:=by omega
   have HFF:Hid (R=true):=hid (by rw[HPl.out,HEnd.out]);go_wp2
   go_ret
   exact⟨retB7 HFF.out.symm,rfl⟩
theorem zCY (s:ByteArray) (most:Int) (hs:s.size<=1000000) (w:World):Calls prog 95 #[.string s,.int .i64 most] w fun e w'=>e=.returned (.int .i64 ((Pt.asked (strL s) most:Nat):Int))/\w'=w:=by
 have HP:=hid (zEZ s hs w);have hLn:(strL s).length=s.size:=zAx s;generalize strL s=L at *;by_cases h0:s.size=0
 ·have HR:Hid (Pt.asked L most=2):=hid (by rw[Pt.asked,if_pos (by omega)]);rw[HR.out];go_enter func95,ntmps95
  go_wp2
  go_ret
  exact⟨rfl,rfl⟩
 ·have hne:((s.size:Int)==0)=false:=beq_eq_false_iff_ne.2 (by omega);by_cases h1:most<(s.size:Int)
  ·have HR:Hid (Pt.asked L most=3):=hid (by rw[Pt.asked,if_neg (by omega),if_pos (by rw[hLn];exact h1)]);rw[HR.out];clear h0;go_enter func95,ntmps95
   go_wp2
   go_ret
   exact⟨rfl,rfl⟩
  ·cases hp:Pt.plain L with
   |true =>
    have HR:Hid (Pt.asked L most=0):=hid (by rw[Pt.asked,if_neg (by omega),if_neg (by rw[hLn];exact h1),if_pos hp]);rw[HR.out];rw[hp]at HP;clear h0 hp;go_enter func95,ntmps95
    go_wp2_with (go_at_call 131;refine HP.out.mono ?_;rintro e w1 ⟨rfl,rfl⟩)
    go_ret
    exact⟨rfl,rfl⟩
   |false =>
    have HR:Hid (Pt.asked L most=8):=hid (by rw[Pt.asked,if_neg (by omega),if_neg (by rw[hLn];exact h1),if_neg (by rw[hp];decide)]);rw[HR.out];rw[hp]at HP;clear h0 hp;go_enter func95,ntmps95
    go_wp2_with (go_at_call 131;refine HP.out.mono ?_;rintro e w1 ⟨rfl,rfl⟩)
    go_ret
    exact⟨rfl,rfl⟩
def zL2 (w:World):Prop:=∀ (s:ByteArray) (W:World),s.size<=2000->w.grownBy W none->Calls prog 43 #[.string s] W fun e w'=>W.grownBy w' none/\e=.returned (.bool (Pt.label (strL s)))
theorem zKl (r:Nat) (hr:r<=1114111) (w:World) :
  Calls prog 86 #[.int .i32 r] w fun e w'=>e=.returned (.bool (Pt.okc r))/\w'=w:=by
 go_enter func86,ntmps86
 go_wp2
 all_goals (go_ret;refine⟨congrArg Ending.returned (congrArg Value.bool ?_),rfl⟩;rw[Bool.eq_iff_iff];simp[Pt.okc];omega)
theorem zFm {P:Program} (w:World) (t:TypeId) (ht:P.underlying t=some .string) (s:ByteArray) (i:Int) (n:Nat) (hi:i=n) (hn:n<s.size) :
  (Instr.index t (.string s) (.int .i64 i)).run P w=.ok (.int .u8 ((strL s).getD n 0:Nat)) w:=by
 subst hi;have h1:0<=(n:Int)/\(n:Int)<(s.size:Int):=by omega
 have h2:(s[(n:Int).toNat]'(by rw[Int.toNat_natCast];exact hn)).toNat=(strL s).getD n 0:=by
  have e:strL s=Pt.nums s.data.toList:=rfl;rw[e,Pt.nums_at,Lib.getD_get!']
  congr 1
  cases s with
  |mk d=>exact(getElem!_pos d n hn).symm
 rw[run_index_string w t s .i64 (n:Int) ht,dif_pos h1,<-h2]
theorem zFi (w:World):zL2 w:=by
 intro s W hs hg;have hz:s.data.toList.length=s.size:=by rw[Array.length_toList];rfl
 have hzl:=zAx s;have eL:Pt.label (strL s)=(decide (1<=s.size/\s.size<=24)&&(decide ((strL s).getD 0 0≠45)&&(decide ((strL s).getD (s.size-1) 0≠45)&&(strL s).all Pt.okc))):=by rw[Pt.label,hzl]
 rw[eL];clear eL;by_cases h0:s.size=0
 ·rw[decide_eq_false (p:=1<=s.size/\s.size<=24) (by omega),Bool.false_and];go_enter func43,ntmps43
  go_wp2
  go_ret
  exact⟨zAa _ _,rfl⟩
 ·have z0:((s.size:Int)==0)=false:=by rw[beq_eq_false_iff_ne];omega
  by_cases h24:24<s.size
  ·rw[decide_eq_false (p:=1<=s.size/\s.size<=24) (by omega),Bool.false_and];have z24:(24:Int)<(s.size:Int):=by omega
   go_enter func43,ntmps43
   go_wp2
   go_ret
   exact⟨zAa _ _,rfl⟩
  ·rw[decide_eq_true (p:=1<=s.size/\s.size<=24) (by omega),Bool.true_and];have z24:¬(24:Int)<(s.size:Int):=by omega
   have i0:∀ w,(Instr.index 9 (.string s) (.int .i64 0)).run prog w=.ok (.int .u8 ((strL s).getD 0 0:Nat)) w:=fun w=>zFm w 9 underlying9 s 0 0 rfl (by omega)
   have iL:∀ w,(Instr.index 9 (.string s) (.int .i64 ((s.size:Int)-1))).run prog w=.ok (.int .u8 ((strL s).getD (s.size-1) 0:Nat)) w:=fun w=>zFm w 9 underlying9 s _ (s.size-1) (by omega) (by omega)
   generalize (strL s).getD 0 0=x at *;generalize (strL s).getD (s.size-1) 0=y at *;by_cases hx:x=45
   ·subst hx;rw[decide_eq_false (p:=(45:Nat)≠45) (by omega),Bool.false_and];go_enter func43,ntmps43
    go_wp2
    go_ret
    exact⟨zAa _ _,rfl⟩
   ·rw[decide_eq_true hx,Bool.true_and];have zx:((x:Int)==45)=false:=by rw[beq_eq_false_iff_ne];omega
    by_cases hy:y=45
    ·subst hy;rw[decide_eq_false (p:=(45:Nat)≠45) (by omega),Bool.false_and];go_enter func43,ntmps43
     go_wp2
     go_ret
     exact⟨zAa _ _,rfl⟩
    ·rw[decide_eq_true hy,Bool.true_and];have zy:((y:Int)==45)=false:=by rw[beq_eq_false_iff_ne];omega
     have eP:(strL s).all Pt.okc=(Pt.nums (s.data.toList.drop 0)).all Pt.okc:=by rw[List.drop_zero];rfl
     rw[eP];obtain⟨R,hR⟩:∃ R,R=(Pt.nums (s.data.toList.drop 0)).all Pt.okc:=⟨_,rfl⟩
     rw[<-hR];have H0:Hid (R=(Pt.nums (s.data.toList.drop 0)).all Pt.okc):=hid hR;have HZ:=hid hz;clear hR eP hz hzl hg;go_enter func43,ntmps43
     go_wp2
     go_loopw [4] (fun _ w'=>∃ pos,w'=W.iter s pos/\Hid (R=(Pt.nums (s.data.toList.drop pos)).all Pt.okc)) (fun _ w'=>s.size-w'.iterPos W.heap.size)
     case atStart=>exact⟨0,rfl,H0⟩
     case round =>
      obtain⟨pos,rfl,H1⟩:=hrel;clear H0;by_cases hp:pos<s.size
      ·have hnx:∀ ty,(Instr.next (.pointer (some ⟨W.heap.size,0,none⟩)) true ty).run prog (W.iter s pos)=_:=fun ty=>run_next_any W s pos ty hp
       have hwd:=Lib.decode_width_pos s pos hp;have hr:=Lib.rune_le s pos;have hd:=Pt.allok_decode (s.data.toList.drop pos) (by intro e;have:=congrArg List.length e;rw[List.length_drop,HZ.out,List.length_nil]at this;omega);rw[Lib.decodeL_drop,List.drop_drop,<-H1.out]at hd;generalize (Utf8.decode s pos).1=r at *;generalize (Utf8.decode s pos).2=k at *;have hI:=fun W=>zKl r hr W
       have HD:=hid hd;clear hd H1;cases hok:Pt.okc r with
       |false =>
        have hR:R=false:=by rw[HD.out,hok,Bool.false_and]
        subst hR;rw[hok]at hI;go_wp2_with (go_at_call 86;refine(hI _).mono ?_;rintro e w3 ⟨rfl,rfl⟩)
        go_ret
        exact⟨zAc (zAa _ _) _,rfl⟩
       |true =>
        have HR:Hid (R=(Pt.nums (s.data.toList.drop (pos+k))).all Pt.okc):=hid (by have h:=HD.out;rw[hok,Bool.true_and]at h;exact h);rw[hok]at hI;clear HD;go_wp2_with (go_at_call 86;refine(hI _).mono ?_;rintro e w3 ⟨rfl,hw3⟩;have hw3':=hw3.symm;subst hw3';clear hw3)
        go_roundw
        case rel=>exact⟨pos+k,rfl,HR⟩
        case measure=>simp;omega
      ·have hnx:∀ ty,(Instr.next (.pointer (some ⟨W.heap.size,0,none⟩)) true ty).run prog (W.iter s pos)=_:=fun ty=>run_next_end W s pos ty hp
       have hR:R=true:=by
        rw[H1.out,List.drop_eq_nil_of_le (by rw[HZ.out];omega)];rfl
       subst hR;go_wp2
       go_ret
       exact⟨zAc (zAa _ _) _,rfl⟩
end Go.Proofs.YtijkaknggdaajaaGreatDoor
