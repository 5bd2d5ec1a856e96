import Derived.Test.YtndkifkhdollgaaGreatDoorZr00
import Derived.WalkKit
import Derived.Deep.MidRow
import Derived.Deep.Draws
import Derived.OwnWalk
import Derived.Laws.AppendOwnNone
import Derived.Laws.BytesArg
import Derived.Lib.AppendStr
import Derived.Test.YtndkifkhdollgaaGreatDoorChecked
import Derived.Lib.Hide
import Derived.Laws.Externs
set_option linter.unusedVariables false
set_option linter.unusedSimpArgs false
set_option maxRecDepth 100000
set_option maxHeartbeats 400000
namespace Go.Proofs.YtndkifkhdollgaaGreatDoor
open Lib (hid)
open Go.RowKit
theorem ret_int {k:IntKind} {a b:Int} (h:a=b):Ending.returned (.int k a)=.returned (.int k b):=by rw[h]
theorem cell_blk {w:World} {b:Nat} {cs:Array Value} {t:TypeId} {fr:Nat×Nat} (h:w.heap[b]?=some (.cells cs t fr)) (i:Nat) {v:Value} (hv:cs[i]?=some v):w.cell? ⟨b,i,none⟩=some v:=by
 simp[World.cell?,h,hv]
theorem free_blk {w:World} {b:Nat} {cs:Array Value} {t:TypeId} (h:w.heap[b]?=some (.cells cs t (0,0))) (i:Nat):w.frozen? ⟨b,i,none⟩=false:=by
 simp[World.frozen?,h]
theorem grown_refl (w:World) (row:Option Nat):w.grownBy w row:=⟨rfl,rfl,rfl,Nat.le_refl _,fun _ _ _=>rfl⟩
theorem grown_trans {a b c:World} {row:Option Nat} (h:a.grownBy b row) (k:b.grownBy c row):a.grownBy c row :=
 ⟨k.os.trans h.os,k.tape.trans h.tape,k.output.trans h.output,Nat.le_trans h.size k.size,fun i hi hne=>(k.block i (Nat.lt_of_lt_of_le hi h.size) hne).trans (h.block i hi hne)⟩
theorem grown_drewN {a b:World} {row:Option Nat} (h:a.grownBy b row) (n:Nat):a.grownBy (b.drewN n) row:=⟨h.os,h.tape,h.output,h.size,h.block⟩
theorem grown_alloc {a b:World} {row:Option Nat} (h:a.grownBy b row) (o:Obj):a.grownBy (b.alloc o) row:=grown_trans h (World.grownBy_alloc b o row)
theorem grown_forget {a b c:World} {g:Nat} (h:a.grownBy b none) (hg:a.heap.size≤g) (k:b.grownBy c (some g)):a.grownBy c none :=
 ⟨k.os.trans h.os,k.tape.trans h.tape,k.output.trans h.output,Nat.le_trans h.size k.size,fun i hi _=>(k.block i (Nat.lt_of_lt_of_le hi h.size) (by simp;omega)).trans (h.block i hi (by simp))⟩
theorem grown_set {w w':World} {row:Option Nat} (h:w.grownBy w' row) {p:Addr} (hp:w.heap.size≤p.block∨some p.block=row) (u:Value):w.grownBy (w'.setCell p u) row :=
 ⟨h.os,h.tape,h.output,by simpa [World.setCell] using h.size,fun k hk hne=>by
  rw[Below.heap_setCell _ _ _ _ (by rcases hp with hp|hp;(· omega);(· intro e;exact hne (by rw[e,hp])))];exact h.block k hk hne⟩
theorem grown_setCells {w:World} {row:Option Nat} (b:Nat) (hb:w.heap.size≤b∨some b=row) (vs:List Value):∀ (o:Nat) (w':World),w.grownBy w' row→w.grownBy (w'.setCells b o vs) row:=by
 induction vs with
 |nil=>intro o w' h;exact h
 |cons v r ih=>intro o w' h;exact ih (o+1) _ (grown_set h hb v)
theorem grown_setRow {w w':World} {row:Option Nat} (h:w.grownBy w' row) {g:Nat} (hg:w.heap.size≤g) (cs:Array Value):w.grownBy (w'.setRow g cs) row :=
 ⟨h.os,h.tape,h.output,by simpa using h.size,fun k hk hne=>by rw[setRow_other _ _ _ _ (by omega)];exact h.block k hk hne⟩
theorem setCell_heap {w:World} {b i:Nat} {cs:Array Value} {t:TypeId} {fr:Nat×Nat} (h:w.heap[b]?=some (.cells cs t fr)) (v:Value) :
  (w.setCell ⟨b,i,none⟩ v).heap[b]?=some (.cells (cs.setIfInBounds i v) t fr):=by
 simp[World.setCell,Array.getElem?_modify,h]
theorem setCell_size (w:World) (p:Addr) (v:Value):(w.setCell p v).heap.size=w.heap.size:=by simp[World.setCell]
theorem setCells_heap {b:Nat} {t:TypeId} {fr:Nat×Nat} (cs:List Value):∀ (pre mid post:List Value) (w:World),w.heap[b]?=some (.cells (pre++mid++post).toArray t fr)→mid.length=cs.length →
  (w.setCells b pre.length cs).heap[b]?=some (.cells (pre++cs++post).toArray t fr):=by
 induction cs with
 |nil=>intro pre mid post w h hl;obtain rfl:mid=[]:=List.eq_nil_of_length_eq_zero (by simpa using hl);exact h
 |cons v r ih =>
  intro pre mid post w h hl
  match mid,hl with
  |m :: mid',hl =>
   have h1:=setCell_heap (i:=pre.length) h v
   have e:(pre++(m :: mid')++post).toArray.setIfInBounds pre.length v=((pre++[v])++mid'++post).toArray:=by
    simp
   rw[e] at h1
   have:=ih (pre++[v]) mid' post _ h1 (by simpa using hl)
   simp only[List.length_append,List.length_singleton] at this
   rw[World.setCells,this]
   simp
theorem range_all {w:World} {b:Nat} {V:Array Value} {t:TypeId} {fr:Nat×Nat} (h:w.heap[b]?=some (.cells V t fr)):w.rangeAt b 0 V.toList:=fun j v hj =>
 cell_blk h _ (by simpa using hj)
theorem blk_lt {w:World} {b:Nat} {o:Obj} (h:w.heap[b]?=some o):b<w.heap.size:=(Array.getElem?_eq_some_iff.1 h).1
theorem alloc_at (w:World) (o:Obj):(w.alloc o).heap[w.heap.size]?=some o:=by
 show (w.heap.push o)[w.heap.size]?=some o
 simp
theorem alloc_old (w:World) (o:Obj) (k:Nat) (h:k<w.heap.size):(w.alloc o).heap[k]?=w.heap[k]?:=Below.heap_alloc w o k h
theorem alloc_size (w:World) (o:Obj):(w.alloc o).heap.size=w.heap.size+1:=by
 show (w.heap.push o).size=_
 simp
theorem alloc2_size (w:World) (o o':Obj):((w.alloc o).alloc o').heap.size=w.heap.size+2:=by
 rw[alloc_size,alloc_size]
theorem alloc2_new (w:World) (o o':Obj):((w.alloc o).alloc o').heap[w.heap.size+1]?=some o':=by
 have:=alloc_at (w.alloc o) o'
 rwa [alloc_size] at this
theorem alloc2_old (w:World) (o o':Obj):((w.alloc o).alloc o').heap[w.heap.size]?=some o:=by
 rw[alloc_old _ _ _ (by rw[alloc_size];omega)];exact alloc_at w o
theorem alloc_keep {w:World} {o p:Obj} {g:Nat} (h:w.heap[g]?=some p):(w.alloc o).heap[g]?=some p:=by
 show (w.heap.push o)[g]?=_
 rw[Array.getElem?_push_lt (blk_lt h),←h,Array.getElem?_eq_getElem (blk_lt h)]
theorem alloc_at2 (w:World) (A B:Obj):((w.alloc A).alloc B).heap[w.heap.size+1]?=some B:=by
 have:=alloc_at (w.alloc A) B
 rwa [alloc_size] at this
def bytesV (ws:List Nat):Array Value:=(ws.map fun (x:Nat)=>Value.int .u8 (x:Int)).toArray
theorem bytesV_at (ws:List Nat) (i:Nat) (h:i<ws.length):(bytesV ws)[i]?=some (.int .u8 (ws.getD i 0:Nat)):=by
 simp[bytesV,h]
theorem bytesV_size (ws:List Nat):(bytesV ws).size=ws.length:=by simp[bytesV]
structure Bytes (w:World) (v:Value) (l:List Nat):Prop where
 lt:∀ x∈l,x<256
 at_:∃ (a:Option Addr) (sb so c:Nat),v=.slice a l.length c∧l.length≤c∧(0<l.length→a=some ⟨sb,so,none⟩∧sb<w.heap.size) ∧
  ∀ j,j<l.length→w.cell? ⟨sb,so+j,none⟩=some (.int .u8 (l.getD j 0:Nat))
theorem Bytes.grown {w w':World} {v:Value} {l:List Nat} (h:Bytes w v l) (hg:w.grownBy w' none):Bytes w' v l:=by
 obtain ⟨h1,a,sb,so,c,h2,h3,h4,h5⟩:=h
 exact ⟨h1,a,sb,so,c,h2,h3,fun h=>⟨(h4 h).1,Nat.lt_of_lt_of_le (h4 h).2 hg.size⟩,fun j hj=>by
  rw[World.cell?_of_block (hg.block sb (h4 (by omega)).2 (by simp))];exact h5 j hj⟩
section
variable {P:Program}
theorem grown_own {a b c:World} {base:Nat} {e:TypeId} {size:Nat} {v:Value} {n:Nat} {xs:List Value} (h:a.grownBy b none) (ho:b.ownsRow base e size v n xs) (hb:a.heap.size≤base) (k:b.grownBy c v.ownBlock):a.grownBy c none :=
 ⟨k.os.trans h.os,k.tape.trans h.tape,k.output.trans h.output,Nat.le_trans h.size k.size,fun i hi _=>(k.block i (Nat.lt_of_lt_of_le hi h.size) (fun e=>by have:=(ho.lt _ e.symm).1;omega)).trans (h.block i hi (by simp))⟩
theorem wpList_app1 {w:World} {ops:Array Oper} {rest:List Oper} {o:Oper} {a:Act} {Q:Exit→Act→World→Prop} (hgd:o.guard=none) (s x:Operand) (t:TypeId)
  (ho:o.op=.call { callee:=.builtin .append,args:=#[s,x],argTypes:=#[t,t] })
  (base:Nat) (e:TypeId) (z:Value) (bytes:Nat) (ht:P.underlying t=some (.slice e)) (hi:(P.info? e).map (fun i=>(i.zero,i.size,i.bytes))=some (some z,1,bytes)) (hzs:z.cells.size=1) (hby:bytes≤64)
  (v:Value) (n:Nat) (xs:List Value) (hs:a.eval s=v) (hown:w.ownsRow base e 1 v n xs)
  (ad:Addr) (u:Value) (hx:a.eval x=.slice (some ad) 1 1) (hu:w.cell? ad=some u) (h1:u.oneCell'=true)
  (h63:n<1099511627776) (hbase:base≤w.heap.size)
  (h:∀ v' w',w'.ownsRow base e 1 v' (n+1) (xs++[u])→w.grownBy w' v.ownBlock→wpList P ops Q rest (a.put o.dst v') w'):wpList P ops Q (o :: rest) a w:=by
 obtain ⟨i,h1',h2',h3',h4'⟩:=info_parts hi
 refine wpList_append_own w hgd s x t ho base e i z 1 bytes ht h1' h2' h3' h4' hzs (by decide) v n xs hs hown ad 1 1 [u] hx rfl ?_ ?_ ?_ ?_ hbase (fun v' w' a1 a2 _=>h v' w' a1 a2)
 ·intro j u' hj
  match j,hj with
  |0,hj =>
   simp at hj
   subst hj
   simpa [Addr.add] using hu
 ·intro u' hu'
  simp at hu'
  subst hu'
  exact h1
 ·unfold maxLen;omega
 ·exact Nat.le_trans (Nat.mul_le_mul_left _ hby) (by omega)
theorem ownsRow_empty (w:World) (base:Nat) (e:TypeId):w.ownsRow base e 1 (.slice none 0 0) 0 []:=⟨rfl,.inl ⟨rfl,rfl⟩⟩
theorem ownsRow_lit {w:World} {base g:Nat} {e:TypeId} {cs:Array Value} (h:w.heap[g]?=some (.cells cs e (0,0))) (hb:base≤g) (hl:cs.size≤1099511627776):w.ownsRow base e 1 (.slice (some ⟨g,0,none⟩) cs.size cs.size) cs.size cs.toList :=
 ⟨by simp,.inr ⟨g,cs.size,cs,rfl,hb,h,Nat.le_refl _,by unfold maxLen;omega,by simp,by rw[Nat.mul_one,List.take_of_length_le (by simp)]⟩⟩
theorem ownsRow_form {w:World} {base:Nat} {e:TypeId} {v:Value} {n:Nat} {xs:List Value} (h:w.ownsRow base e 1 v n xs):∃ (a:Option Addr) (g c:Nat),v=.slice a n c∧n≤c∧c≤maxLen∧(0<n→a=some ⟨g,0,none⟩∧base≤g∧g<w.heap.size)∧∀ j,j<n→w.cell? ⟨g,j,none⟩=xs[j]?:=by
 obtain ⟨h1,h2⟩:=h
 rcases h2 with ⟨rfl,rfl⟩|⟨g,cap,cur,rfl,hb,hg,hn,hc,hs,ht⟩
 ·exact ⟨none,0,0,rfl,Nat.le_refl _,Nat.zero_le _,fun h=>absurd h (by decide),fun j hj=>absurd hj (by omega)⟩
 ·refine ⟨_,g,cap,rfl,hn,hc,fun _=>⟨rfl,hb,blk_lt hg⟩,fun j hj=>?_⟩
  rw[←ht,List.getElem?_take,if_pos (by omega)]
  have:j<cur.size:=by omega
  simp[World.cell?,hg]
end
def cellsL (l:List Nat):List Value:=l.map fun (x:Nat)=>Value.int .u8 (x:Int)
theorem cellsL_len (l:List Nat):(cellsL l).length=l.length:=by simp[cellsL]
theorem cellsL_one (l:List Nat):∀ u∈cellsL l,u.oneCell'=true:=by
 intro u hu
 simp only[cellsL,List.mem_map] at hu
 obtain ⟨x,_,rfl⟩:=hu
 rfl
theorem cellsL_append (a b:List Nat):cellsL (a++b)=cellsL a++cellsL b:=by simp[cellsL]
theorem cellsL_at (l:List Nat) (j:Nat) (h:j<l.length):(cellsL l)[j]?=some (.int .u8 (l.getD j 0:Nat)):=by simp[cellsL,h]
def strL (s:ByteArray):List Nat:=s.data.toList.map (·.toNat)
def strOf (l:List Nat):ByteArray:=⟨(l.map UInt8.ofNat).toArray⟩
theorem strL_len (s:ByteArray):(strL s).length=s.size:=by rw[strL,List.length_map,Array.length_toList];rfl
theorem strL_lt (s:ByteArray):∀ x∈strL s,x<256:=by
 intro x hx
 simp only[strL,List.mem_map] at hx
 obtain ⟨b,_,rfl⟩:=hx
 exact b.toNat_lt
theorem strL_getD (s:ByteArray) (i:Nat) (h:i<s.size):(s[i]'h).toNat=(strL s).getD i 0:=by
 have h':i<s.data.size:=h
 have e:s[i]'h=s.data[i]'h':=rfl
 rw[e,List.getD_eq_getElem?_getD,strL,List.getElem?_map,Array.getElem?_toList,Array.getElem?_eq_getElem h']
 rfl
theorem strOf_size (l:List Nat):(strOf l).size=l.length:=by rw[←strL_len,strL,List.length_map];simp[strOf]
theorem strL_strOf {l:List Nat} (h:∀ x∈l,x<256):strL (strOf l)=l:=by
 simp only[strL,strOf,List.map_map]
 conv=>rhs;rw[←List.map_id l]
 exact List.map_congr_left fun x hx=>by
  have:=h x hx
  simp
  omega
theorem strL_inj {s t:ByteArray} (h:strL s=strL t):s=t:=by
 obtain ⟨⟨a⟩⟩:=s
 obtain ⟨⟨b⟩⟩:=t
 simp only[strL] at h
 rw[List.map_inj_right (fun x y e=>UInt8.toNat_inj.1 e)] at h
 rw[h]
theorem strOf_strL (s:ByteArray):strOf (strL s)=s:=strL_inj (strL_strOf (strL_lt s))
theorem str_beq (s t:ByteArray):(s.toList==t.toList)=decide (strL s=strL t):=by
 rw[ByteArray.toList_eq,ByteArray.toList_eq,Bool.eq_iff_iff,beq_iff_eq,decide_eq_true_eq]
 simp only[strL]
 rw[List.map_inj_right (fun x y e=>UInt8.toNat_inj.1 e)]
theorem strOf_beq {a b:List Nat} (ha:∀ x∈a,x<256) (hb:∀ x∈b,x<256):((strOf a).toList==(strOf b).toList)=decide (a=b):=by
 rw[str_beq,strL_strOf ha,strL_strOf hb]
def Whole0 (v:Value):Prop:=∀ n c,v=.slice none n c→n=0∧c=0
section
variable {P:Program}
theorem conv_bytes {w:World} {v:Value} {l:List Nat} (h:Bytes w v l) (src e dst:TypeId) (hs:P.underlying src=some (.slice e)) (he:P.underlying e=some (.int .u8)) (hd:P.underlying dst=some .string) :
  (convert src dst v).run P w=.ok (.string (strOf l)) w:=by
 obtain ⟨h1,a,sb,so,c,rfl,hc,ha,hcell⟩:=h
 have e1:strOfNums (l.map fun (x:Nat)=>(x:Int))=strOf l:=by simp[strOfNums,strOf]
 rcases Nat.eq_zero_or_pos l.length with h0|h0
 ·obtain rfl:=List.eq_nil_of_length_eq_zero h0
  match a with
  |none=>rw[run_convert_bytes_nil w src e hs he _ _ dst hd];rfl
  |some ad =>
   have hl:(loadCells ad 0).run P w=.ok (([]:List Int).map (Value.int .u8)).toArray w:=by
    have:=run_loadCells_list (P:=P) w ad [] (by simp)
    simpa using this
   rw[run_convert_bytes_string w src dst e _ _ c hs he hd]
   exact run_bytesToString w ad 0 c [] hl
 ·obtain ⟨rfl,_⟩:=ha h0
  rw[←e1]
  exact run_convert_bytes_arg w src e hs he sb so l.length c _ (by simp) (fun i hi=>by rw[hcell i hi];simp[hi]) dst hd
theorem addr_addO (g o j:Nat):(⟨g,o,none⟩:Addr).add j=⟨g,o+j,none⟩:=by
 unfold Addr.add
 split <;> simp_all
theorem wpList_appB {w:World} {ops:Array Oper} {rest:List Oper} {o:Oper} {a:Act} {Q:Exit→Act→World→Prop} (hgd:o.guard=none) (s x:Operand) (t:TypeId)
  (ho:o.op=.call { callee:=.builtin .append,args:=#[s,x],argTypes:=#[t,t] })
  (base:Nat) (e:TypeId) (z:Value) (bytes:Nat) (ht:P.underlying t=some (.slice e)) (hi:(P.info? e).map (fun i=>(i.zero,i.size,i.bytes))=some (some z,1,bytes)) (hzs:z.cells.size=1) (hby:bytes≤64)
  (v:Value) (n:Nat) (xs:List Value) (hs:a.eval s=v) (hown:w.ownsRow base e 1 v n xs)
  (u:Value) (l:List Nat) (hx:a.eval x=u) (hB:Bytes w u l) (h0:Whole0 u)
  (h63:n+l.length≤1099511627776) (hbase:base≤w.heap.size)
  (h:∀ v' w',w'.ownsRow base e 1 v' (n+l.length) (xs++cellsL l)→w.grownBy w' v.ownBlock→wpList P ops Q rest (a.put o.dst v') w'):wpList P ops Q (o :: rest) a w:=by
 obtain ⟨i,h1',h2',h3',h4'⟩:=info_parts hi
 obtain ⟨hl,ad,sb,so,c,rfl,hc,ha,hcell⟩:=hB
 match ad with
 |none =>
  obtain ⟨hn0,rfl⟩:=h0 _ _ rfl
  obtain rfl:=List.eq_nil_of_length_eq_zero hn0
  refine wpList_append_own_none hgd s x t ho base e i 1 ht h1' v n xs hs hown hx (h v w ?_ (grown_refl _ _))
  simpa [cellsL] using hown
 |some ad =>
  refine wpList_append_own w hgd s x t ho base e i z 1 bytes ht h1' h2' h3' h4' hzs (by decide) v n xs hs hown ad l.length c (cellsL l) hx (by simp[cellsL]) ?_ (cellsL_one l) ?_ ?_ hbase (fun v' w' a1 a2 _=>h v' w' a1 a2)
  ·intro j u' hj
   have hjl:j<l.length:=by
    have:=(List.getElem?_eq_some_iff.1 hj).1
    simpa [cellsL] using this
   obtain ⟨e1,_⟩:=ha (by omega)
   obtain rfl:=Option.some.inj e1
   rw[addr_addO,hcell j hjl,←cellsL_at l j hjl,hj]
  ·unfold maxLen;omega
  ·exact Nat.le_trans (Nat.mul_le_mul_left _ hby) (by omega)
theorem Bytes.lit {w:World} {g:Nat} {t:TypeId} {fr:Nat×Nat} {l:List Nat} (h:w.heap[g]?=some (.cells (cellsL l).toArray t fr)) (hl:∀ x∈l,x<256):Bytes w (.slice (some ⟨g,0,none⟩) l.length l.length) l :=
 ⟨hl,_,g,0,_,rfl,Nat.le_refl _,fun _=>⟨rfl,blk_lt h⟩,fun j hj=>by rw[Nat.zero_add];exact cell_blk h j (by rw[List.getElem?_toArray];exact cellsL_at l j hj)⟩
theorem Whole0.some (a:Addr) (n c:Nat):Whole0 (.slice (some a) n c):=fun _ _ e=>by cases e
theorem Bytes.own {w:World} {base:Nat} {e:TypeId} {v:Value} {n:Nat} {l:List Nat} (h:w.ownsRow base e 1 v n (cellsL l)) (hl:∀ x∈l,x<256):Bytes w v l:=by
 obtain ⟨a,g,c,rfl,h1,h2,h3,h4⟩:=ownsRow_form h
 have hn:n=l.length:=by have:=h.1;simpa [cellsL] using this.symm
 subst hn
 exact ⟨hl,a,g,0,c,rfl,h1,fun h=>⟨(h3 h).1,(h3 h).2.2⟩,fun j hj=>by rw[Nat.zero_add,h4 j hj];exact cellsL_at l j hj⟩
theorem Whole0.own {w:World} {base:Nat} {e:TypeId} {v:Value} {n:Nat} {xs:List Value} (h:w.ownsRow base e 1 v n xs):Whole0 v:=by
 intro n' c e
 rcases h.2 with ⟨rfl,rfl⟩|⟨g,cap,cur,rfl,_⟩
 ·cases e;exact ⟨rfl,rfl⟩
 ·cases e
end
section
variable {P:Program}
theorem run_append_sharp (w:World) (base:Nat) (t ty e:TypeId) (i:TypeInfo) (z:Value) (ht:P.underlying t=some (.slice e)) (hi:P.info? e=some i) (hz:i.zero=some z) (hsize:i.size=1) (hzs:z.cells.size=1) (hby:i.bytes≤64)
  (v:Value) (n:Nat) (xs:List Value) (hown:w.ownsRow base e 1 v n xs) (a:Addr) (m c:Nat) (news:List Value) (hl:news.length=m) (hnews:∀ j u,news[j]?=some u→w.cell? (a.add j)=some u) (h1:∀ u∈news,u.oneCell'=true)
  (h63:n+m≤1099511627776) (hbase:base≤w.heap.size) :
  ∃ v' w',(Builtin.append_ #[t,t] ty #[v,.slice (some a) m c]).run P w=.ok v' w'∧w'.ownsRow base e 1 v' (n+m) (xs++news)∧w.grownBy w' v.ownBlock∧(v'.ownBlock=v.ownBlock∨v'.ownBlock=some w.heap.size):=by
 have hmax:n+m≤maxLen:=by unfold maxLen;omega
 have hbytes:(n+m)*i.bytes≤140737488355328:=Nat.le_trans (Nat.mul_le_mul_left _ hby) (by omega)
 obtain ⟨v',w',hr,h2,h3,h4⟩:=run_append_own (P:=P) w base t ty e i z 1 i.bytes ht hi hz hsize rfl hzs (by decide) v n xs hown a m c news (by omega) hnews h1 hmax hbytes hbase
 refine ⟨v',w',hr,h2,h3,?_⟩
 rcases hown.2 with ⟨rfl,rfl⟩|⟨g,cap,cur,rfl,hbg,hg,hnc,hcm,hcs,htake⟩
 ·rcases Nat.eq_zero_or_pos m with hm|hm
  ·rw[h4.2 ⟨rfl,hm⟩];exact .inl rfl
  ·have:=run_append_nil (P:=P) w t ty e i z ht hi hz a m c news (by rw[hsize];omega) hnews hm (by omega) (by simp only[Nat.zero_add] at hbytes;omega)
   rw[this] at hr
   cases hr
   exact .inr rfl
 ·by_cases hroom:n+m≤cap
  ·have:=run_append_room (P:=P) w t ty e i ht hi g n cap cur hg a m c news (by rw[hsize];omega) hnews h1 hroom (by rw[hsize];omega)
   rw[this] at hr
   cases hr
   exact .inl rfl
  ·have:=run_append_grow (P:=P) w t ty e i z ht hi hz ⟨g,0,none⟩ n cap xs (by rw[hsize];exact hown.1) (hown.cells (g:=g) rfl) a m c news (by rw[hsize];omega) hnews (by omega) (by omega) (growslice_fits (by omega) hbytes)
   rw[this] at hr
   cases hr
   exact .inr rfl
theorem wpList_appB2 {w:World} {ops:Array Oper} {rest:List Oper} {o:Oper} {a:Act} {Q:Exit→Act→World→Prop} (hgd:o.guard=none) (s x:Operand) (t:TypeId)
  (ho:o.op=.call { callee:=.builtin .append,args:=#[s,x],argTypes:=#[t,t] })
  (base:Nat) (e:TypeId) (z:Value) (bytes:Nat) (ht:P.underlying t=some (.slice e)) (hi:(P.info? e).map (fun i=>(i.zero,i.size,i.bytes))=some (some z,1,bytes)) (hzs:z.cells.size=1) (hby:bytes≤64)
  (v:Value) (n:Nat) (xs:List Value) (hs:a.eval s=v) (hown:w.ownsRow base e 1 v n xs)
  (u:Value) (l:List Nat) (hx:a.eval x=u) (hB:Bytes w u l) (h0:Whole0 u)
  (h63:n+l.length≤1099511627776) (hbase:base≤w.heap.size)
  (h:∀ v' w',w'.ownsRow base e 1 v' (n+l.length) (xs++cellsL l)→w.grownBy w' v.ownBlock→(v'.ownBlock=v.ownBlock∨v'.ownBlock=some w.heap.size)→wpList P ops Q rest (a.put o.dst v') w'):wpList P ops Q (o :: rest) a w:=by
 obtain ⟨i,h1',h2',h3',h4'⟩:=info_parts hi
 obtain ⟨hl,ad,sb,so,c,rfl,hc,ha,hcell⟩:=hB
 match ad with
 |none =>
  obtain ⟨hn0,rfl⟩:=h0 _ _ rfl
  obtain rfl:=List.eq_nil_of_length_eq_zero hn0
  refine wpList_append_own_none hgd s x t ho base e i 1 ht h1' v n xs hs hown hx (h v w ?_ (grown_refl _ _) (.inl rfl))
  simpa [cellsL] using hown
 |some ad =>
  obtain ⟨v',w',hr,k1,k2,k3⟩:=run_append_sharp (P:=P) w base t o.type e i z ht h1' h2' h3' hzs (by rw[h4'];exact hby) v n xs hown ad l.length c (cellsL l) (by simp[cellsL]) (fun j u' hj=>by
   have hjl:j<l.length:=by
    have:=(List.getElem?_eq_some_iff.1 hj).1
    simpa [cellsL] using this
   obtain ⟨e1,_⟩:=ha (by omega)
   obtain rfl:=Option.some.inj e1
   rw[addr_addO,hcell j hjl,←cellsL_at l j hjl,hj]) (cellsL_one l) h63 hbase
  refine wpList_plain hgd fun K hK=>?_
  unfold Oper.wp execOp
  simp only[ho,resolve,invoke,builtin,Sem.run_bind,Sem.run_pure,Result.andThen_ok,List.map_toArray,List.map_cons,List.map_nil,hs,hx,hr]
  exact hK _ _ (h v' w' k1 k2 k3)
end
section
variable {P:Program}
theorem run_append_sharpN (w:World) (base:Nat) (t ty e:TypeId) (i:TypeInfo) (z:Value) (size:Nat) (ht:P.underlying t=some (.slice e)) (hi:P.info? e=some i) (hz:i.zero=some z) (hsize:i.size=size) (hzs:z.cells.size=size) (hsz:0<size) (hby:i.bytes≤64)
  (v:Value) (n:Nat) (xs:List Value) (hown:w.ownsRow base e size v n xs) (a:Addr) (m c:Nat) (news:List Value) (hl:news.length=m*size) (hnews:∀ j u,news[j]?=some u→w.cell? (a.add j)=some u) (h1:∀ u∈news,u.oneCell'=true)
  (h63:n+m≤1099511627776) (hbase:base≤w.heap.size) :
  ∃ v' w',(Builtin.append_ #[t,t] ty #[v,.slice (some a) m c]).run P w=.ok v' w'∧w'.ownsRow base e size v' (n+m) (xs++news)∧w.grownBy w' v.ownBlock∧(v'.ownBlock=v.ownBlock∨v'.ownBlock=some w.heap.size):=by
 have hmax:n+m≤maxLen:=by unfold maxLen;omega
 have hbytes:(n+m)*i.bytes≤140737488355328:=Nat.le_trans (Nat.mul_le_mul_left _ hby) (by omega)
 obtain ⟨v',w',hr,h2,h3,h4⟩:=run_append_own (P:=P) w base t ty e i z size i.bytes ht hi hz hsize rfl hzs hsz v n xs hown a m c news hl hnews h1 hmax hbytes hbase
 refine ⟨v',w',hr,h2,h3,?_⟩
 subst hsize
 rcases hown.2 with ⟨rfl,rfl⟩|⟨g,cap,cur,rfl,hbg,hg,hnc,hcm,hcs,htake⟩
 ·rcases Nat.eq_zero_or_pos m with hm|hm
  ·rw[h4.2 ⟨rfl,hm⟩];exact .inl rfl
  ·have:=run_append_nil (P:=P) w t ty e i z ht hi hz a m c news hl hnews hm (by omega) (by simp only[Nat.zero_add] at hbytes;omega)
   rw[this] at hr
   cases hr
   exact .inr rfl
 ·by_cases hroom:n+m≤cap
  ·have:=run_append_room (P:=P) w t ty e i ht hi g n cap cur hg a m c news hl hnews h1 hroom (by rw[hl,hcs,←Nat.add_mul];exact Nat.mul_le_mul_right _ hroom)
   rw[this] at hr
   cases hr
   exact .inl rfl
  ·have:=run_append_grow (P:=P) w t ty e i z ht hi hz ⟨g,0,none⟩ n cap xs hown.1 (hown.cells (g:=g) rfl) a m c news hl hnews (by omega) (by omega) (growslice_fits (by omega) hbytes)
   rw[this] at hr
   cases hr
   exact .inr rfl
theorem wpList_appN2 {w:World} {ops:Array Oper} {rest:List Oper} {o:Oper} {a:Act} {Q:Exit→Act→World→Prop} (hgd:o.guard=none) (s x:Operand) (t:TypeId)
  (ho:o.op=.call { callee:=.builtin .append,args:=#[s,x],argTypes:=#[t,t] })
  (base:Nat) (e:TypeId) (z:Value) (size bytes:Nat) (ht:P.underlying t=some (.slice e)) (hi:(P.info? e).map (fun i=>(i.zero,i.size,i.bytes))=some (some z,size,bytes)) (hzs:z.cells.size=size) (hsz:0<size) (hby:bytes≤64)
  (v:Value) (n:Nat) (xs:List Value) (hs:a.eval s=v) (hown:w.ownsRow base e size v n xs)
  (ad:Addr) (m c:Nat) (news:List Value) (hx:a.eval x=.slice (some ad) m c) (hl:news.length=m*size) (hnews:∀ j u,news[j]?=some u→w.cell? (ad.add j)=some u) (h1:∀ u∈news,u.oneCell'=true)
  (h63:n+m≤1099511627776) (hbase:base≤w.heap.size)
  (h:∀ v' w',w'.ownsRow base e size v' (n+m) (xs++news)→w.grownBy w' v.ownBlock→(v'.ownBlock=v.ownBlock∨v'.ownBlock=some w.heap.size)→wpList P ops Q rest (a.put o.dst v') w'):wpList P ops Q (o :: rest) a w:=by
 obtain ⟨i,h1',h2',h3',h4'⟩:=info_parts hi
 obtain ⟨v',w',hr,k1,k2,k3⟩:=run_append_sharpN (P:=P) w base t o.type e i z size ht h1' h2' h3' hzs hsz (by rw[h4'];exact hby) v n xs hown ad m c news hl hnews h1 h63 hbase
 refine wpList_plain hgd fun K hK=>?_
 unfold Oper.wp execOp
 simp only[ho,resolve,invoke,builtin,Sem.run_bind,Sem.run_pure,Result.andThen_ok,List.map_toArray,List.map_cons,List.map_nil,hs,hx,hr]
 exact hK _ _ (h v' w' k1 k2 k3)
end
theorem rows_unlike {w:World} {b1 b2:Nat} {e1 e2:TypeId} {s1 s2:Nat} {v u:Value} {n m:Nat} {xs ys:List Value} (h:w.ownsRow b1 e1 s1 v n xs) (h':w.ownsRow b2 e2 s2 u m ys) (he:e1≠e2) {k:Nat} (hk:v.ownBlock=some k):u.ownBlock≠some k:=fun hu=>by
 rcases h.2 with ⟨h1,_⟩|⟨g,_,_,h1,_,h2,_⟩
 ·rw[h1] at hk;exact absurd hk (by simp[Value.ownBlock])
 ·rcases h'.2 with ⟨k1,_⟩|⟨g',_,_,k1,_,k2,_⟩
  ·rw[k1] at hu;exact absurd hu (by simp[Value.ownBlock])
  ·rw[h1] at hk
   rw[k1] at hu
   obtain rfl:g=k:=Option.some.inj hk
   obtain rfl:g'=g:=Option.some.inj hu
   rw[h2] at k2
   simp only[Option.some.injEq,Obj.cells.injEq] at k2
   exact he k2.2.1
theorem own_lt {w:World} {base:Nat} {e:TypeId} {sz:Nat} {v:Value} {n:Nat} {xs:List Value} (h:w.ownsRow base e sz v n xs) {k:Nat} (hk:v.ownBlock=some k):k<w.heap.size:=(h.lt k hk).2
theorem own_formN {w:World} {base:Nat} {e:TypeId} {sz:Nat} {v:Value} {n:Nat} {xs:List Value} (h:w.ownsRow base e sz v n xs):∃ (a:Option Addr) (g c:Nat),v=.slice a n c∧n≤c∧c≤maxLen∧(a=none→n=0∧c=0)∧(∀ p,a=some p→p=⟨g,0,none⟩)∧(0<n→a=some ⟨g,0,none⟩∧g<w.heap.size∧(∀ j u,xs[j]?=some u→w.cell? ⟨g,j,none⟩=some u)∧∀ j,w.frozen? ⟨g,j,none⟩=false):=by
 rcases h.2 with ⟨rfl,rfl⟩|⟨g,cap,cur,rfl,_,hg,hc,hm,hs,ht⟩
 ·exact ⟨none,0,0,rfl,Nat.le_refl _,by unfold maxLen;omega,fun _=>⟨rfl,rfl⟩,(fun _ h=>by cases h),fun h=>absurd h (Nat.lt_irrefl _)⟩
 ·refine ⟨some ⟨g,0,none⟩,g,cap,rfl,hc,hm,(fun h=>by cases h),fun p h=>(Option.some.inj h).symm,fun _=>⟨rfl,blk_lt hg,fun j u hj=>?_,fun j=>free_blk hg j⟩⟩
  have:=h.cells (g:=g) rfl j u hj
  rwa [addr_addO,Nat.zero_add] at this
theorem own_take {w:World} {base:Nat} {e:TypeId} {sz g n c:Nat} {xs:List Value} (h:w.ownsRow base e sz (.slice (some ⟨g,0,none⟩) n c) n xs) {k:Nat} (hk:k≤n):w.ownsRow base e sz (.slice (some ⟨g,0,none⟩) k c) k (xs.take (k*sz)):=by
 have hmul:k*sz≤n*sz:=Nat.mul_le_mul_right _ hk
 refine ⟨by rw[List.length_take,h.1];omega,?_⟩
 rcases h.2 with ⟨h1,_⟩|⟨g',cap,cur,h1,h2,h3,h4,h5,h6,h7⟩
 ·exact absurd h1 (by simp)
 ·simp only[Value.slice.injEq,Option.some.injEq,Addr.mk.injEq,and_true,true_and] at h1
  obtain ⟨rfl,rfl⟩:=h1
  exact .inr ⟨g,c,cur,rfl,h2,h3,by omega,h5,h6,by rw[←h7,List.take_take,Nat.min_eq_left hmul]⟩
theorem own_putN {w:World} {base:Nat} {e:TypeId} {sz g n c:Nat} {xs:List Value} (h:w.ownsRow base e sz (.slice (some ⟨g,0,none⟩) n c) n xs) {K:Nat} (u:Value) :
  (w.setCell ⟨g,K,none⟩ u).ownsRow base e sz (.slice (some ⟨g,0,none⟩) n c) n (xs.set K u):=by
 refine ⟨by simpa using h.1,?_⟩
 rcases h.2 with ⟨h1,_⟩|⟨g',cap,cur,h1,h2,h3,h4,h5,h6,h7⟩
 ·exact absurd h1 (by simp)
 ·simp only[Value.slice.injEq,Option.some.injEq,Addr.mk.injEq,and_true,true_and] at h1
  obtain ⟨rfl,rfl⟩:=h1
  refine .inr ⟨g,c,cur.setIfInBounds K u,rfl,h2,setCell_heap h3 u,h4,h5,by simpa using h6,?_⟩
  rw[Array.toList_setIfInBounds,List.take_set,h7]
theorem bytesLess_lex:∀ (x y:List UInt8),Op.bytesLess x y=Cal.lex (x.map (·.toNat)) (y.map (·.toNat))
 |[],[]=>rfl
 |_ :: _,[]=>rfl
 |[],_ :: _=>rfl
 |a :: x,b :: y=>by
  have h:=bytesLess_lex x y
  rw[Op.bytesLess,List.map_cons,List.map_cons,Cal.lex,h]
  by_cases e:a=b
  ·subst e
   simp
  ·have e2:¬ a.toNat=b.toNat:=fun h=>e (UInt8.toNat_inj.1 h)
   rw[if_neg e2]
   simp[e,UInt8.lt_iff_toNat_lt]
theorem str_less (s t:ByteArray):Op.bytesLess s.toList t.toList=Cal.lex (strL s) (strL t):=by
 rw[ByteArray.toList_eq,ByteArray.toList_eq,bytesLess_lex]
 rfl
namespace Pt
theorem bit_lo (m:Nat):∀ i,i<8→m%256/2 ^ i%2=m/2 ^ i%2
 |0,_=>by simp only[Nat.pow_zero];omega
 |1,_=>by show m%256/2%2=m/2%2;omega
 |2,_=>by show m%256/4%2=m/4%2;omega
 |3,_=>by show m%256/8%2=m/8%2;omega
 |4,_=>by show m%256/16%2=m/16%2;omega
 |5,_=>by show m%256/32%2=m/32%2;omega
 |6,_=>by show m%256/64%2=m/64%2;omega
 |7,_=>by show m%256/128%2=m/128%2;omega
theorem bit_high (m k:Nat):m/2 ^ (8+k)=m/256/2 ^ k:=by rw[Nat.pow_add,show (2:Nat) ^ 8=256 from rfl,Nat.div_div_eq_div_mul]
end Pt
namespace Wh
theorem num_snoc (c:Nat):∀ l,num (l++[c])=num l*256+c
 |[]=>by simp[num]
 |x :: r=>by
  rw[List.cons_append,num,num_snoc c r,num,List.length_append,List.length_singleton,Nat.pow_succ]
  generalize 256 ^ r.length=p
  rw[Nat.add_mul,←Nat.mul_assoc]
  omega
theorem num_take (l:List Nat) (k:Nat) (h:k<l.length):num (l.take (k+1))=num (l.take k)*256+l.getD k 0:=by
 rw[List.take_add_one,List.getElem?_eq_getElem h,Option.toList_some,num_snoc]
 simp[List.getD_eq_getElem?_getD,List.getElem?_eq_getElem h]
def acc (s:Bool) (l:List Nat) (k:Nat):Nat:=num (l.take k)+(if s then 18446744073709551616-256 ^ k else 0)
theorem acc_step (s:Bool) (l:List Nat) (k:Nat) (hl:∀ x∈l,x<256) (h:k<l.length) (h8:l.length≤8):(acc s l k*256+l.getD k 0)%18446744073709551616=acc s l (k+1)∧acc s l k<18446744073709551616:=by
 have h1:=num_lt (l:=l.take k) (fun x hx=>hl x (List.mem_of_mem_take hx))
 have h2:=num_lt (l:=l.take (k+1)) (fun x hx=>hl x (List.mem_of_mem_take hx))
 have hx:l.getD k 0<256:=by
  rw[List.getD_eq_getElem?_getD,List.getElem?_eq_getElem h];exact hl _ (List.getElem_mem h)
 have ht:=num_take l k h
 rw[List.length_take,Nat.min_eq_left (by omega)] at h1 h2
 have hp:256 ^ (k+1)≤256 ^ 8:=Nat.pow_le_pow_right (by decide) (by omega)
 rw[show (256 ^ 8:Nat)=18446744073709551616 by decide] at hp
 have hk:0<256 ^ k:=Nat.pow_pos (by decide)
 unfold acc
 rw[ht] at h2 ⊢
 rw[Nat.pow_succ] at *
 generalize num (l.take k)=a at *
 generalize 256 ^ k=p at *
 generalize l.getD k 0=x at *
 cases s
 ·simp;omega
 ·simp only[if_true];omega
end Wh
theorem wrap64_i64 (n:Int):wrap64 n=IntKind.i64.wrap n:=by
 simp only[wrap64,IntKind.wrap,IntKind.bits,IntKind.signed]
 simp
 split <;> omega
theorem wrap_acc (m z:Nat):IntKind.u64.wrap (IntKind.u64.wrap ((m:Int)*256)+(z:Int))=(((m*256+z)%18446744073709551616:Nat):Int):=by
 simp only[IntKind.wrap,IntKind.bits,IntKind.signed]
 simp
theorem getD_small {l:List Nat} (h:∀ x∈l,x<256) (j:Nat):l.getD j 0<256:=by
 rcases Nat.lt_or_ge j l.length with hj|hj
 ·rw[List.getD_eq_getElem?_getD,List.getElem?_eq_getElem hj];exact h _ (List.getElem_mem hj)
 ·rw[List.getD_eq_getElem?_getD,List.getElem?_eq_none hj];decide
theorem acc_last (l:List Nat) (x:Nat) (r:List Nat) (e:l=x :: r) (hl:∀ x∈l,x<256) (h8:l.length≤8):IntKind.i64.wrap ((Wh.acc (decide (127<x)) l l.length:Nat):Int)=Wh.val l:=by
 subst e
 have h1:=Wh.num_lt hl
 have hp:256 ^ (x :: r).length≤256 ^ 8:=Nat.pow_le_pow_right (by decide) h8
 rw[show (256 ^ 8:Nat)=18446744073709551616 by decide] at hp
 have hv:=Wh.val_i64 hl h8
 rw[Wh.val] at hv ⊢
 rw[Wh.acc,List.take_length]
 rw[List.length_cons] at *
 generalize Wh.num (x :: r)=p at *
 generalize 256 ^ (r.length+1)=q at *
 simp only[IntKind.wrap,IntKind.bits,IntKind.signed]
 by_cases hx:127<x
 ·rw[if_pos hx] at hv ⊢
  simp only[hx,decide_true,if_true]
  simp
  omega
 ·rw[if_neg hx] at hv ⊢
  simp only[hx,decide_false]
  simp
  omega
theorem refWGet_any (v:Value) (l:List Nat) (w:World) (hB:Bytes w v l) :
  Calls Tryz.prog 124 #[v] w fun e w'=>w'=w∧match Wh.get l with
   |.ok n=>e=.returned (.tuple #[.int .i64 n,.int .i64 0])
   |.error k=>e=.returned (.tuple #[.int .i64 0,.int .i64 k]):=by
 obtain ⟨hlt,a,sb,so,c,rfl,hc,ha,hcell⟩:=hB
 match l,hlt,hc,ha,hcell with
 |[],hlt,hc,ha,hcell =>
  clear hlt ha hcell
  rw[show Wh.get []=.error 2 by rw[Wh.get,if_pos rfl]]
  go_enter Tryz.func124,Tryz.ntmps124
  go_wp2
  go_ret2
  exact ⟨rfl,rfl⟩
 |x :: r,hlt,hc,ha,hcell =>
  obtain ⟨rfl,ha2⟩:=ha (by simp)
  have c0:w.cell? ⟨sb,so,none⟩=some (.int .u8 (x:Nat)):=hcell 0 (by simp)
  have hx:=hlt x (by simp)
  obtain ⟨y,hy⟩:∃ y,y=(x :: r).getD 1 0:=⟨_,rfl⟩
  have hy2:y<256:=by rw[hy];exact getD_small hlt 1
  have c1:1<(x :: r).length→w.cell? ⟨sb,so+1,none⟩=some (.int .u8 (y:Nat)):=fun h=>by rw[hy];exact hcell 1 h
  have hneed:Wh.needless (x :: r)=true↔1<(x :: r).length∧(x=0∧y<128∨x=255∧127<y):=by
   match r,hy with
   |[],_=>simp[Wh.needless]
   |z :: s,hy =>
    have:y=z:=by simpa using hy
    subst this
    simp[Wh.needless]
  have hg1:Wh.needless (x :: r)=true→Wh.get (x :: r)=.error 4:=fun h=>by rw[Wh.get,if_neg (by simp),if_pos h]
  have hg2:¬ Wh.needless (x :: r)=true→8<(x :: r).length→Wh.get (x :: r)=.error 1:=fun h h8=>by rw[Wh.get,if_neg (by simp),if_neg h,if_pos h8]
  have hg3:¬ Wh.needless (x :: r)=true→¬ 8<(x :: r).length→Wh.get (x :: r)=.ok (Wh.val (x :: r)):=fun h h8=>by rw[Wh.get,if_neg (by simp),if_neg h,if_neg h8]
  have hlast:=fun h8=>acc_last (x :: r) x r rfl hlt h8
  have hstep:=fun k h h8=>Wh.acc_step (decide (127<x)) (x :: r) k hlt h h8
  have hx0:(x :: r).getD 0 0=x:=rfl
  have hpos:0<(x :: r).length:=by simp
  rw[hneed] at hg1 hg2 hg3
  clear hneed hy ha
  generalize hL:(x :: r)=L at *
  have Hcell:=hid hcell
  have Hlt:=hid hlt
  have HL:=hid hL
  clear hcell hlt hL
  obtain ⟨n,hn⟩:∃ n,n=L.length:=⟨_,rfl⟩
  have HN:=hid hn
  rw[←hn] at hc c1 hg1 hg2 hg3 hlast hstep hpos ⊢
  have Hlast:=hid hlast
  have Hstep:=hid hstep
  clear hn hlast hstep hx0
  generalize hgv:Wh.get L=gv at *
  clear hgv
  by_cases h1:1<n∧(x=0∧y<128∨x=255∧127<y)
  ·obtain rfl:=hg1 h1
   obtain ⟨h1,h2⟩:=h1
   have c1':=c1 h1
   clear hg1 hg2 hg3 c1
   go_enter Tryz.func124,Tryz.ntmps124
   rcases h2 with ⟨rfl,h2⟩|⟨rfl,h2⟩
   ·go_wp2
    go_ret2
    exact ⟨rfl,rfl⟩
   ·go_wp2
    go_ret2
    exact ⟨rfl,rfl⟩
  ·have hcase:n=1∨(1<n∧x=0∧128≤y)∨(1<n∧x=255∧y≤127)∨(1<n∧x≠0∧x≠255):=by omega
   by_cases h8:8<n
   ·obtain rfl:=hg2 h1 h8
    have c1':=c1 (by omega)
    clear hg1 hg2 hg3 c1 h1
    go_enter Tryz.func124,Tryz.ntmps124
    rcases hcase with h|⟨h,rfl,h2⟩|⟨h,rfl,h2⟩|⟨h,h2,h3⟩
    ·omega
    ·go_wp2
     go_ret2
     exact ⟨rfl,rfl⟩
    ·go_wp2
     go_ret2
     exact ⟨rfl,rfl⟩
    ·go_wp2
     go_ret2
     exact ⟨rfl,rfl⟩
   ·obtain rfl:=hg3 h1 h8
    clear hg1 hg2 hg3 h1
    have Hl:=hid (Hlast.out (by omega))
    have HSt:=hid (fun k hk=>Hstep.out k hk (by omega))
    obtain ⟨S,hS⟩:∃ S,S=decide (127<x):=⟨_,rfl⟩
    have HS:Hid (S=decide (127<x)):=hid hS
    rw[←hS] at Hl HSt
    generalize Wh.val L=V at *
    have fin:∀ (a:Act),True:=fun _=>trivial
    clear Hlast Hstep hS fin
    rcases hcase with rfl|⟨h,rfl,h2⟩|⟨h,rfl,h2⟩|⟨h,h2,h3⟩
    ·clear c1
     by_cases hs:127<x
     ·go_enter Tryz.func124,Tryz.ntmps124
      go_wp2
      go_loopw [4,46] (fun u i wr=>∃ k:Nat,k≤1∧i=.int .i64 k∧u=.int .u64 (Wh.acc S L k:Nat)∧wr=w) (fun _ i _=>1-(intOf i).toNat)
      case atStart=>exact ⟨0,Nat.zero_le _,rfl,by rw[HS.out];simp[Wh.acc,Wh.num,hs],rfl⟩
      case round =>
       obtain ⟨k,hk,rfl,rfl,rfl⟩:=hrel
       by_cases hkn:k<1
       ·have hc1:=Hcell.out k (by rw[←HN.out];exact hkn)
        have hz:=getD_small Hlt.out k
        obtain ⟨hs1,hs2⟩:=HSt.out k hkn
        have Hs1:=hid hs1
        clear hs1
        generalize L.getD k 0=z at *
        generalize Wh.acc S L k=m at *
        go_wp2
        go_roundw
        case rel=>exact ⟨k+1,by omega,by go_num,by rw[wrap_acc,Hs1.out],trivial⟩
        case measure=>simp[intOf];omega
       ·obtain rfl:k=1:=by omega
        generalize hm:Wh.acc S L _=m at *
        have Hm1:=hid hm
        clear hm
        go_wp2
        go_ret2
        exact ⟨rfl,by rw[←Hl.out,←wrap64_i64];rfl⟩
     ·go_enter Tryz.func124,Tryz.ntmps124
      go_wp2
      go_loopw [4,46] (fun u i wr=>∃ k:Nat,k≤1∧i=.int .i64 k∧u=.int .u64 (Wh.acc S L k:Nat)∧wr=w) (fun _ i _=>1-(intOf i).toNat)
      case atStart=>exact ⟨0,Nat.zero_le _,rfl,by rw[HS.out];simp[Wh.acc,Wh.num,hs],rfl⟩
      case round =>
       obtain ⟨k,hk,rfl,rfl,rfl⟩:=hrel
       by_cases hkn:k<1
       ·have hc1:=Hcell.out k (by rw[←HN.out];exact hkn)
        have hz:=getD_small Hlt.out k
        obtain ⟨hs1,hs2⟩:=HSt.out k hkn
        have Hs1:=hid hs1
        clear hs1
        generalize L.getD k 0=z at *
        generalize Wh.acc S L k=m at *
        go_wp2
        go_roundw
        case rel=>exact ⟨k+1,by omega,by go_num,by rw[wrap_acc,Hs1.out],trivial⟩
        case measure=>simp[intOf];omega
       ·obtain rfl:k=1:=by omega
        generalize hm:Wh.acc S L _=m at *
        have Hm1:=hid hm
        clear hm
        go_wp2
        go_ret2
        exact ⟨rfl,by rw[←Hl.out,←wrap64_i64];rfl⟩
    ·have c1':=c1 h
     clear c1
     go_enter Tryz.func124,Tryz.ntmps124
     go_wp2
     go_loopw [4,46] (fun u i wr=>∃ k:Nat,k≤n∧i=.int .i64 k∧u=.int .u64 (Wh.acc S L k:Nat)∧wr=w) (fun _ i _=>n-(intOf i).toNat)
     case atStart=>exact ⟨0,Nat.zero_le _,rfl,by rw[HS.out];simp[Wh.acc,Wh.num,show ¬ (127<0) by omega],rfl⟩
     case round =>
      obtain ⟨k,hk,rfl,rfl,rfl⟩:=hrel
      by_cases hkn:k<n
      ·have hc1:=Hcell.out k (by rw[←HN.out];exact hkn)
       have hz:=getD_small Hlt.out k
       obtain ⟨hs1,hs2⟩:=HSt.out k hkn
       have Hs1:=hid hs1
       clear hs1
       generalize L.getD k 0=z at *
       generalize Wh.acc S L k=m at *
       go_wp2
       go_roundw
       case rel=>exact ⟨k+1,by omega,by go_num,by rw[wrap_acc,Hs1.out],trivial⟩
       case measure=>simp[intOf];omega
      ·obtain rfl:k=n:=by omega
       generalize hm:Wh.acc S L _=m at *
       have Hm1:=hid hm
       clear hm
       go_wp2
       go_ret2
       exact ⟨rfl,by rw[←Hl.out,←wrap64_i64];rfl⟩
    ·have c1':=c1 h
     clear c1
     go_enter Tryz.func124,Tryz.ntmps124
     go_wp2
     go_loopw [4,46] (fun u i wr=>∃ k:Nat,k≤n∧i=.int .i64 k∧u=.int .u64 (Wh.acc S L k:Nat)∧wr=w) (fun _ i _=>n-(intOf i).toNat)
     case atStart=>exact ⟨0,Nat.zero_le _,rfl,by rw[HS.out];simp[Wh.acc,Wh.num,show 127<255 by omega],rfl⟩
     case round =>
      obtain ⟨k,hk,rfl,rfl,rfl⟩:=hrel
      by_cases hkn:k<n
      ·have hc1:=Hcell.out k (by rw[←HN.out];exact hkn)
       have hz:=getD_small Hlt.out k
       obtain ⟨hs1,hs2⟩:=HSt.out k hkn
       have Hs1:=hid hs1
       clear hs1
       generalize L.getD k 0=z at *
       generalize Wh.acc S L k=m at *
       go_wp2
       go_roundw
       case rel=>exact ⟨k+1,by omega,by go_num,by rw[wrap_acc,Hs1.out],trivial⟩
       case measure=>simp[intOf];omega
      ·obtain rfl:k=n:=by omega
       generalize hm:Wh.acc S L _=m at *
       have Hm1:=hid hm
       clear hm
       go_wp2
       go_ret2
       exact ⟨rfl,by rw[←Hl.out,←wrap64_i64];rfl⟩
    ·have c1':=c1 h
     clear c1
     by_cases hs:127<x
     ·go_enter Tryz.func124,Tryz.ntmps124
      go_wp2
      go_loopw [4,46] (fun u i wr=>∃ k:Nat,k≤n∧i=.int .i64 k∧u=.int .u64 (Wh.acc S L k:Nat)∧wr=w) (fun _ i _=>n-(intOf i).toNat)
      case atStart=>exact ⟨0,Nat.zero_le _,rfl,by rw[HS.out];simp[Wh.acc,Wh.num,hs],rfl⟩
      case round =>
       obtain ⟨k,hk,rfl,rfl,rfl⟩:=hrel
       by_cases hkn:k<n
       ·have hc1:=Hcell.out k (by rw[←HN.out];exact hkn)
        have hz:=getD_small Hlt.out k
        obtain ⟨hs1,hs2⟩:=HSt.out k hkn
        have Hs1:=hid hs1
        clear hs1
        generalize L.getD k 0=z at *
        generalize Wh.acc S L k=m at *
        go_wp2
        go_roundw
        case rel=>exact ⟨k+1,by omega,by go_num,by rw[wrap_acc,Hs1.out],trivial⟩
        case measure=>simp[intOf];omega
       ·obtain rfl:k=n:=by omega
        generalize hm:Wh.acc S L _=m at *
        have Hm1:=hid hm
        clear hm
        go_wp2
        go_ret2
        exact ⟨rfl,by rw[←Hl.out,←wrap64_i64];rfl⟩
     ·go_enter Tryz.func124,Tryz.ntmps124
      go_wp2
      go_loopw [4,46] (fun u i wr=>∃ k:Nat,k≤n∧i=.int .i64 k∧u=.int .u64 (Wh.acc S L k:Nat)∧wr=w) (fun _ i _=>n-(intOf i).toNat)
      case atStart=>exact ⟨0,Nat.zero_le _,rfl,by rw[HS.out];simp[Wh.acc,Wh.num,hs],rfl⟩
      case round =>
       obtain ⟨k,hk,rfl,rfl,rfl⟩:=hrel
       by_cases hkn:k<n
       ·have hc1:=Hcell.out k (by rw[←HN.out];exact hkn)
        have hz:=getD_small Hlt.out k
        obtain ⟨hs1,hs2⟩:=HSt.out k hkn
        have Hs1:=hid hs1
        clear hs1
        generalize L.getD k 0=z at *
        generalize Wh.acc S L k=m at *
        go_wp2
        go_roundw
        case rel=>exact ⟨k+1,by omega,by go_num,by rw[wrap_acc,Hs1.out],trivial⟩
        case measure=>simp[intOf];omega
       ·obtain rfl:k=n:=by omega
        generalize hm:Wh.acc S L _=m at *
        have Hm1:=hid hm
        clear hm
        go_wp2
        go_ret2
        exact ⟨rfl,by rw[←Hl.out,←wrap64_i64];rfl⟩
namespace Bc
def cmp (a b:List Nat):Int:=Extern.BytealgCompare.cmp (strOf a) (strOf b)
theorem strOf_at (l:List Nat) (i:Nat) (h:i<l.length):(strOf l)[i]! = UInt8.ofNat (l.getD i 0):=by
 have hs:i<(strOf l).size:=by rw[strOf_size];exact h
 rw[getElem!_pos (strOf l) i hs,List.getD_eq_getElem?_getD,List.getElem?_eq_getElem h]
 show ((l.map UInt8.ofNat).toArray)[i]'(by simpa using h)=_
 rw[List.getElem_toArray,List.getElem_map]
 rfl
theorem ne_at {x y:Nat} (hx:x<256) (hy:y<256):(UInt8.ofNat x != UInt8.ofNat y)=decide (x≠y):=by
 rw[Bool.eq_iff_iff]
 simp only[bne_iff_ne,ne_eq,decide_eq_true_eq]
 refine not_congr ⟨fun h=>?_,fun h=>by rw[h]⟩
 have:=congrArg UInt8.toNat h
 rw[UInt8.toNat_ofNat',UInt8.toNat_ofNat',Nat.mod_eq_of_lt hx,Nat.mod_eq_of_lt hy] at this
 exact this
theorem lt_at {x y:Nat} (hx:x<256) (hy:y<256):(UInt8.ofNat x<UInt8.ofNat y)↔x<y:=by
 rw[UInt8.lt_iff_toNat_lt,UInt8.toNat_ofNat',UInt8.toNat_ofNat',Nat.mod_eq_of_lt hx,Nat.mod_eq_of_lt hy]
theorem lex_at:∀ (a b:List Nat) (i:Nat),(∀ j,j<i→a.getD j 0=b.getD j 0)→i≤a.length→i≤b.length →
  (i<a.length→i<b.length→a.getD i 0≠b.getD i 0→Cal.lex a b=decide (a.getD i 0<b.getD i 0)) ∧
  (i=a.length∨i=b.length→Cal.lex a b=decide (a.length<b.length))
 |[],[],i,_,ha,_=>⟨fun h=>absurd h (by simp),fun _=>by simp[Cal.lex]⟩
 |[],y :: s,i,_,ha,_=>⟨fun h=>absurd h (by simp),fun _=>by simp[Cal.lex]⟩
 |x :: r,[],i,_,_,hb=>⟨fun _ h=>absurd h (by simp),fun _=>by simp[Cal.lex]⟩
 |x :: r,y :: s,0,_,_,_=>⟨fun _ _ h=>by
   simp only[List.getD_cons_zero] at h ⊢
   rw[Cal.lex,if_neg h],fun h=>by simp at h⟩
 |x :: r,y :: s,i+1,hj,ha,hb=>by
  have e:x=y:=by simpa using hj 0 (by omega)
  subst e
  have ih:=lex_at r s i (fun j h=>by simpa using hj (j+1) (by omega)) (by simpa using ha) (by simpa using hb)
  simp only[List.getD_cons_succ,List.length_cons] at ih ⊢
  rw[Cal.lex,if_pos rfl]
  refine ⟨fun h1 h2 h3=>ih.1 (by omega) (by omega) h3,fun h=>?_⟩
  rw[ih.2 (by omega)]
  simp
theorem cmp_lex {a b:List Nat} (ha:∀ x∈a,x<256) (hb:∀ x∈b,x<256):decide (cmp a b<0)=Cal.lex a b:=by
 have ga:∀ i,a.getD i 0<256:=fun i=>by
  rw[List.getD_eq_getElem?_getD]
  cases h:a[i]? with
  |none=>exact Nat.zero_lt_succ _
  |some x=>exact ha x (List.mem_of_getElem? h)
 have gb:∀ i,b.getD i 0<256:=fun i=>by
  rw[List.getD_eq_getElem?_getD]
  cases h:b[i]? with
  |none=>exact Nat.zero_lt_succ _
  |some x=>exact hb x (List.mem_of_getElem? h)
 unfold cmp Extern.BytealgCompare.cmp
 rw[strOf_size,strOf_size]
 have pe:∀ i,i<min a.length b.length→((strOf a)[i]! != (strOf b)[i]!)=decide (a.getD i 0≠b.getD i 0):=fun i h=>by
  rw[strOf_at a i (by omega),strOf_at b i (by omega),ne_at (ga i) (gb i)]
 cases hf:(List.range (min a.length b.length)).find? fun i=>(strOf a)[i]! != (strOf b)[i]! with
 |none =>
  rw[List.find?_range_eq_none] at hf
  have hj:∀ j,j<min a.length b.length→a.getD j 0=b.getD j 0:=fun j h=>by
   have:=hf j h
   rw[pe j h] at this
   simpa using this
  have hl:=(lex_at a b (min a.length b.length) hj (by omega) (by omega)).2 (by omega)
  rw[hl]
  show decide ((if a.length<b.length then (-1:Int) else if a.length > b.length then 1 else 0)<0)=_
  by_cases h1:a.length<b.length
  ·rw[if_pos h1];simp[h1]
  ·rw[if_neg h1];split <;> simp[h1]
 |some i =>
  rw[List.find?_range_eq_some] at hf
  obtain ⟨h1,h2,h3⟩:=hf
  have hi:i<min a.length b.length:=List.mem_range.1 h2
  rw[pe i hi] at h1
  have hj:∀ j,j<i→a.getD j 0=b.getD j 0:=fun j h=>by
   have:=h3 j h
   rw[pe j (by omega)] at this
   simpa using this
  have hl:=(lex_at a b i hj (by omega) (by omega)).1 (by omega) (by omega) (by simpa using h1)
  rw[hl]
  show decide ((if (strOf a)[i]!<(strOf b)[i]! then (-1:Int) else 1)<0)=_
  rw[strOf_at a i (by omega),strOf_at b i (by omega)]
  by_cases h:a.getD i 0<b.getD i 0
  ·rw[if_pos ((lt_at (ga i) (gb i)).2 h)];simp only[h];decide
  ·rw[if_neg (fun h2=>h ((lt_at (ga i) (gb i)).1 h2))];simp only[h];decide
end Bc
theorem run_loadBytes2 {P:Program} {w:World} {sb:Nat} (l:List Nat):∀ (so:Nat) (acc:List Nat),(∀ j,j<l.length→w.cell? ⟨sb,so+j,none⟩=some (.int .u8 (l.getD j 0:Nat)))→(∀ x∈l,x<256) →
  (Extern.Bytes.loadBytes ⟨sb,so,none⟩ l.length (strOf acc)).run P w=.ok (strOf (acc++l)) w:=by
 induction l with
 |nil=>intro so acc _ _;rw[List.append_nil];rfl
 |cons x r ih =>
  intro so acc h hlt
  have hx:=hlt x (by simp)
  have h0:=h 0 (by simp)
  simp only[List.getD_cons_zero,Nat.add_zero] at h0
  rw[List.length_cons,Extern.Bytes.loadBytes]
  simp only[Sem.run_bind,run_load,h0,Result.andThen]
  rw[addr_addO]
  have e:(strOf acc).push (x:Int).toNat.toUInt8=strOf (acc++[x]):=by
   rw[Int.toNat_natCast]
   simp[strOf,ByteArray.push]
  rw[e]
  have:=ih (so+1) (acc++[x]) (fun j hj=>by have:=h (j+1) (by simp;omega);rw[Nat.add_assoc,Nat.add_comm 1 j,this];simp) (fun y hy=>hlt y (by simp[hy]))
  rw[this,List.append_assoc]
  rfl
theorem run_bytesOf2 {P:Program} {w:World} {v:Value} {l:List Nat} (hB:Bytes w v l) (h0:Whole0 v):(Extern.Bytes.bytesOf v).run P w=.ok (strOf l) w:=by
 obtain ⟨hlt,a,sb,so,c,rfl,hc,ha,hcell⟩:=hB
 match a with
 |none =>
  obtain ⟨hn,_⟩:=h0 _ _ rfl
  obtain rfl:=List.eq_nil_of_length_eq_zero hn
  rfl
 |some ad =>
  match l,ha,hcell,hlt,hc,h0 with
  |[],_,_,_,_,_=>rfl
  |x :: r,ha,hcell,hlt,_,_ =>
   obtain ⟨e,_⟩:=ha (by simp)
   obtain rfl:=Option.some.inj e
   have:=run_loadBytes2 (P:=P) (w:=w) (sb:=sb) (x :: r) so [] hcell hlt
   rw[List.nil_append] at this
   exact this
theorem compareB_any (v u:Value) (A B:List Nat) (w:World) (hA:Bytes w v A) (hB:Bytes w u B) (hv:Whole0 v) (hu:Whole0 u) :
  Calls Tryz.prog 184 #[v,u] w fun e w'=>e=.returned (.int .i64 (Bc.cmp A B))∧w'=w:=by
 have h77:(callFunc 209 #[v,u]).run Tryz.prog w=.ok (.value (.int .i64 (Bc.cmp A B))) w:=by
  rw[@run_callFunc_extern Tryz.prog 209 _ Extern.BytealgCompare.compare Tryz.func209 (by kernel_rfl) (by kernel_rfl) (by kernel_rfl) (by kernel_rfl)]
  have e:Extern.BytealgCompare.compare #[v,u]=(do pure (goInt (Extern.BytealgCompare.cmp (←Extern.Bytes.bytesOf v) (←Extern.Bytes.bytesOf u)))):=rfl
  rw[e]
  simp only[Sem.run_bind,run_bytesOf2 hA hv,run_bytesOf2 hB hu,Result.andThen]
  rfl
 obtain ⟨_,va,_,_,vc,rfl,_⟩:=hA
 obtain ⟨_,ua,_,_,uc,rfl,_⟩:=hB
 generalize Bc.cmp A B=c at *
 go_enter Tryz.func184,Tryz.ntmps184
 go_wp2
 go_ret
 exact ⟨rfl,rfl⟩
namespace Pt
end Pt
end Go.Proofs.YtndkifkhdollgaaGreatDoor
