import Derived.Test.YtjjbkpjjmbfdhaaGreatDoorZb00
import Derived.Test.YtjjbkpjjmbfdhaaGreatDoorZb01
import Derived.Test.YtjjbkpjjmbfdhaaGreatDoorZb02
import Derived.Test.YtjjbkpjjmbfdhaaGreatDoorZb03
import Derived.Lib.ConvBytes
import Derived.WalkKit
import Derived.Test.YtjjbkpjjmbfdhaaGreatDoorChecked
import Derived.KernelRfl
import Derived.Laws.Slices
import Derived.Lib.Hide
import Derived.BigQuiet
set_option linter.unusedVariables false
set_option linter.unusedSimpArgs false
set_option maxRecDepth 100000
set_option maxHeartbeats 4000000
namespace Go.Proofs.YtjjbkpjjmbfdhaaGreatDoor
open Lib (hid)
open Go.RowKit
section
variable {P:Program} {ops:Array Oper} {rest:List Oper} {o:Oper} {a:Act} {w:World} {Q:Exit→Act→World→Prop}
theorem grown_bytesW (w:World) (e:TypeId) (s:ByteArray):w.grownBy (Lib.bytesWorld w e s) none :=
 ⟨by simp[Lib.bytesWorld,World.freeze];rfl,by simp[Lib.bytesWorld,World.freeze],by simp[Lib.bytesWorld,World.freeze];rfl,by rw[Lib.bytesWorld_size];omega,fun k hk _=>Lib.bytesWorld_at_old w e s k hk⟩
theorem wpList_strBy (hgd:o.guard=none) (t u:TypeId) (x:Operand) (ho:o.op=.convert t u x) {e:TypeId} {d:TypeDesc} (ht:P.underlying t=some d) (hu:P.underlying u=some (.slice e)) (he:P.underlying e=some (.int .u8))
  (s:ByteArray) (hx:a.eval x=.string s) (h:∀ c w',w.grownBy w' none→Bytes w' (.slice (some ⟨w.heap.size,0,none⟩) s.size c) (strL s)→wpList P ops Q rest (a.put o.dst (.slice (some ⟨w.heap.size,0,none⟩) s.size c)) w'):wpList P ops Q (o :: rest) a w:=by
 have hr:=Lib.run_convert_string_bytes (P:=P) w t u e s ht hu he
 refine wpList_plain hgd fun K hK=>?_
 unfold Oper.wp execOp
 simp only[ho,Sem.run_bind,Sem.run_pure,Result.andThen_ok,hx,hr]
 refine hK _ _ (h _ _ (grown_bytesW w e s) ⟨strL_lt s,some ⟨w.heap.size,0,none⟩,w.heap.size,0,_,by rw[strL_len],by rw[strL_len];exact grownCap_ge _ _ _ _,fun _=>⟨rfl,by rw[Lib.bytesWorld_size];omega⟩,fun j hj=>?_⟩)
 rw[Nat.zero_add,Lib.bytesWorld_cell w e s j (by rw[←strL_len];exact hj)]
 congr 3
 simp[strL]
 cases s.data[j]? <;> rfl
end
section
variable {P:Program}
theorem Whole0.len {a:Option Addr} {n c:Nat} (h:Whole0 (.slice a n c)):a=none→n=0∧c=0:=fun e=>by subst e;exact h _ _ rfl
theorem Bytes.cap {w:World} {a:Option Addr} {n c:Nat} {l:List Nat} (h:Bytes w (.slice a n c) l):n=l.length∧n≤c:=by
 obtain ⟨_,_,_,_,_,he,hc,_⟩:=h
 cases he
 exact ⟨rfl,hc⟩
def subA (a:Option Addr) (k c:Nat):Option Addr:=if c=k then a else a.map (·.add k)
theorem subA_none {a:Option Addr} {k c:Nat} (h:subA a k c=none):a=none:=by
 unfold subA at h
 split at h
 ·exact h
 ·cases a
  ·rfl
  ·cases h
theorem Bytes.from {w:World} {a:Option Addr} {n c:Nat} {l:List Nat} (hB:Bytes w (.slice a n c) l) (k:Nat) (hk:k≤n):Bytes w (.slice (subA a k c) (n-k) (c-k)) (l.drop k):=by
 obtain ⟨h1,a1,sb,so,c1,he,hc,ha,hcell⟩:=hB
 cases he
 refine ⟨fun x hx=>h1 x (List.mem_of_mem_drop hx),subA a k c,sb,so+k,c-k,by rw[List.length_drop],by rw[List.length_drop];omega,fun hpos=>?_,fun j hj=>?_⟩
 ·rw[List.length_drop] at hpos
  obtain ⟨e,hlt⟩:=ha (by omega)
  refine ⟨?_,hlt⟩
  rw[subA,if_neg (by omega),e,Option.map_some,addr_addO]
 ·rw[List.length_drop] at hj
  have:=hcell (k+j) (by omega)
  rw[←Nat.add_assoc] at this
  rw[this]
  simp[List.getD_eq_getElem?_getD]
theorem Whole0.from {a:Option Addr} {n c:Nat} (h0:Whole0 (.slice a n c)) (k:Nat):Whole0 (.slice (subA a k c) (n-k) (c-k)):=fun n' c' e=>by
 simp only[Value.slice.injEq] at e
 obtain ⟨e1,e2,e3⟩:=e
 have:=h0.len (subA_none e1)
 omega
theorem Bytes.to {w:World} {a:Option Addr} {n c:Nat} {l:List Nat} (hB:Bytes w (.slice a n c) l) (k:Nat) (hk:k≤n):Bytes w (.slice a k c) (l.take k):=by
 obtain ⟨h1,a1,sb,so,c1,he,hc,ha,hcell⟩:=hB
 cases he
 refine ⟨fun x hx=>h1 x (List.mem_of_mem_take hx),a,sb,so,c,by rw[List.length_take,Nat.min_eq_left hk],by rw[List.length_take];omega,fun hpos=>?_,fun j hj=>?_⟩
 ·rw[List.length_take] at hpos
  exact ha (by omega)
 ·rw[List.length_take] at hj
  rw[hcell j (by omega)]
  simp[List.getD_eq_getElem?_getD,show j<k by omega]
theorem Whole0.to {a:Option Addr} {n c:Nat} (h0:Whole0 (.slice a n c)) (k:Nat) (hk:k≤n):Whole0 (.slice a k c):=fun n' c' e=>by
 simp only[Value.slice.injEq] at e
 obtain ⟨e1,e2,e3⟩:=e
 have:=h0.len e1
 omega
end
theorem elemU8:Tryz.prog.underlying 27=some (.slice (Tryz.prog.elem 27)):=by kernel_rfl
theorem sizeU8 (w:World):(sizeOf (Tryz.prog.elem 27)).run Tryz.prog w=.ok 1 w:=by kernel_rfl
@[go_sem high] theorem run_from8 (w:World) (a:Option Addr) (n c:Nat) (i:Int) (h0:0≤i) (h1:i≤n) :
  (Instr.slice 27 (.slice a n c) (some (.int .i64 i)) none none).run Tryz.prog w=.ok (.slice (subA a i.toNat c) (n-i.toNat) (c-i.toNat)) w:=by
 rw[run_slice_l w 27 a n c elemU8 .i64 i h0 h1,sizeU8]
 simp only[Result.andThen,sliced,Nat.mul_one,subA]
@[go_sem high] theorem run_from8_1 (w:World) (a:Option Addr) (n c:Nat) :
  (Instr.slice 27 (.slice a (n+1) c) (some (.int .i64 1)) none none).run Tryz.prog w=.ok (.slice (subA a 1 c) n (c-1)) w:=by
 rw[run_from8 w a (n+1) c 1 (by decide) (by omega)]
 rfl
@[go_sem high] theorem run_to8 (w:World) (a:Option Addr) (n c:Nat) (i:Int) (h0:0≤i) (h1:i≤c) :
  (Instr.slice 27 (.slice a n c) none (some (.int .i64 i)) none).run Tryz.prog w=.ok (.slice a i.toNat c) w:=by
 have hadd:∀ x:Addr,x.add 0=x:=fun x=>by unfold Addr.add;split <;> simp_all
 rw[run_slice_h w 27 a n c elemU8 .i64 i h0 h1,sizeU8]
 simp only[Result.andThen,sliced,Nat.mul_one,Nat.sub_zero]
 congr 2
 split
 ·rfl
 ·cases a
  ·rfl
  ·simp[hadd]
def Ints (w:World) (v:Value) (l:List Int):Prop :=
 ∃ (a:Option Addr) (sb so c:Nat),v=.slice a l.length c∧l.length≤c∧(0<l.length→a=some ⟨sb,so,none⟩∧sb<w.heap.size)∧∀ j,j<l.length→w.cell? ⟨sb,so+j,none⟩=some (.int .i64 (l.getD j 0))
def cellsI (l:List Int):List Value:=l.map fun z=>Value.int .i64 z
theorem cellsI_len (l:List Int):(cellsI l).length=l.length:=by simp[cellsI]
theorem cellsI_one (l:List Int):∀ u∈cellsI l,u.oneCell'=true:=by
 intro u hu
 simp only[cellsI,List.mem_map] at hu
 obtain ⟨z,_,rfl⟩:=hu
 rfl
theorem cellsI_append (a b:List Int):cellsI (a++b)=cellsI a++cellsI b:=by simp[cellsI]
theorem cellsI_at (l:List Int) (j:Nat) (h:j<l.length):(cellsI l)[j]?=some (.int .i64 (l.getD j 0)):=by simp[cellsI,h]
theorem Ints.grown {w w':World} {v:Value} {l:List Int} (h:Ints w v l) (hg:w.grownBy w' none):Ints w' v l:=by
 obtain ⟨a,sb,so,c,h1,h2,h3,h4⟩:=h
 refine ⟨a,sb,so,c,h1,h2,fun hp=>⟨(h3 hp).1,Nat.lt_of_lt_of_le (h3 hp).2 hg.size⟩,fun j hj=>?_⟩
 rw[World.cell?_of_block (hg.block sb (h3 (by omega)).2 (by simp))]
 exact h4 j hj
theorem Ints.nil (w:World):Ints w (.slice none 0 0) []:=⟨none,0,0,0,rfl,Nat.le_refl _,fun h=>absurd h (Nat.lt_irrefl _),fun j hj=>absurd hj (Nat.not_lt_zero _)⟩
theorem Ints.own {w:World} {base:Nat} {e:TypeId} {v:Value} {n:Nat} {l:List Int} (h:w.ownsRow base e 1 v n (cellsI l)):Ints w v l:=by
 have hn:=h.1
 rw[cellsI_len,Nat.mul_one] at hn
 subst hn
 obtain ⟨a,g,c,rfl,h1,h2,h3,h4⟩:=ownsRow_form h
 refine ⟨a,g,0,c,rfl,h1,fun hp=>⟨(h3 hp).1,(h3 hp).2.2⟩,fun j hj=>?_⟩
 rw[Nat.zero_add,h4 j hj,cellsI_at l j hj]
theorem Ints.cap {w:World} {a:Option Addr} {n c:Nat} {l:List Int} (h:Ints w (.slice a n c) l):n=l.length∧n≤c:=by
 obtain ⟨_,_,_,_,he,hc,_⟩:=h
 cases he
 exact ⟨rfl,hc⟩
theorem Ints.from {w:World} {a:Option Addr} {n c:Nat} {l:List Int} (hB:Ints w (.slice a n c) l) (k:Nat) (hk:k≤n):Ints w (.slice (subA a k c) (n-k) (c-k)) (l.drop k):=by
 obtain ⟨a1,sb,so,c1,he,hc,ha,hcell⟩:=hB
 cases he
 refine ⟨subA a k c,sb,so+k,c-k,by rw[List.length_drop],by rw[List.length_drop];omega,fun hpos=>?_,fun j hj=>?_⟩
 ·rw[List.length_drop] at hpos
  obtain ⟨e,hlt⟩:=ha (by omega)
  refine ⟨?_,hlt⟩
  rw[subA,if_neg (by omega),e,Option.map_some,addr_addO]
 ·rw[List.length_drop] at hj
  have:=hcell (k+j) (by omega)
  rw[←Nat.add_assoc] at this
  rw[this]
  simp[List.getD_eq_getElem?_getD]
theorem Ints.to {w:World} {a:Option Addr} {n c:Nat} {l:List Int} (hB:Ints w (.slice a n c) l) (k:Nat) (hk:k≤n):Ints w (.slice a k c) (l.take k):=by
 obtain ⟨a1,sb,so,c1,he,hc,ha,hcell⟩:=hB
 cases he
 refine ⟨a,sb,so,c,by rw[List.length_take,Nat.min_eq_left hk],by rw[List.length_take];omega,fun hpos=>?_,fun j hj=>?_⟩
 ·rw[List.length_take] at hpos
  exact ha (by omega)
 ·rw[List.length_take] at hj
  rw[hcell j (by omega)]
  simp[List.getD_eq_getElem?_getD,show j<k by omega]
structure FrI (w w':World) (v:Value) (l:List Int):Prop where
 grown:w.grownBy w' none
 own:w'.ownsRow w.heap.size 3 1 v l.length (cellsI l)
theorem FrI.alloc {w w':World} {v:Value} {l:List Int} (h:FrI w w' v l) (o:Obj):FrI w (w'.alloc o) v l:=⟨grown_alloc h.grown o,h.own.alloc o⟩
theorem FrI.step {w b c:World} {v v':Value} {l l':List Int} {n':Nat} {xs:List Value} (h:FrI w b v l) (ho:c.ownsRow w.heap.size 3 1 v' n' xs) (hg:b.grownBy c v.ownBlock) (e:xs=cellsI l'):FrI w c v' l':=by
 subst e
 have hn:n'=l'.length:=by have:=ho.1;rw[cellsI_len] at this;omega
 subst hn
 exact ⟨grown_own h.grown h.own (Nat.le_refl _) hg,ho⟩
theorem FrI.le {w w':World} {v:Value} {l:List Int} (h:FrI w w' v l):w.heap.size≤w'.heap.size:=h.grown.size
theorem FrI.ints {w w':World} {v:Value} {l:List Int} (h:FrI w w' v l):Ints w' v l:=Ints.own h.own
theorem FrI.more {w b c:World} {v:Value} {l:List Int} (h:FrI w b v l) (hg:b.grownBy c none):FrI w c v l:=⟨grown_trans h.grown hg,h.own.kept hg (Classical.em _)⟩
section
variable {P:Program}
theorem wpList_appI {w:World} {ops:Array Oper} {rest:List Oper} {o:Oper} {a:Act} {Q:Exit→Act→World→Prop} (hgd:o.guard=none) (s x:Operand) (t:TypeId)
  (ho:o.op=.call { callee:=.builtin .append,args:=#[s,x],argTypes:=#[t,t] })
  (base:Nat) (e:TypeId) (z:Value) (bytes:Nat) (ht:P.underlying t=some (.slice e)) (hi:(P.info? e).map (fun i=>(i.zero,i.size,i.bytes))=some (some z,1,bytes)) (hzs:z.cells.size=1) (hby:bytes≤64)
  (v:Value) (n:Nat) (xs:List Value) (hs:a.eval s=v) (hown:w.ownsRow base e 1 v n xs)
  (u:Value) (l:List Int) (hx:a.eval x=u) (hB:Ints w u l) (h0:Whole0 u)
  (h63:n+l.length≤1099511627776) (hbase:base≤w.heap.size)
  (h:∀ v' w',w'.ownsRow base e 1 v' (n+l.length) (xs++cellsI l)→w.grownBy w' v.ownBlock→wpList P ops Q rest (a.put o.dst v') w'):wpList P ops Q (o :: rest) a w:=by
 obtain ⟨i,h1',h2',h3',h4'⟩:=info_parts hi
 obtain ⟨ad,sb,so,c,rfl,hc,ha,hcell⟩:=hB
 match ad with
 |none =>
  obtain ⟨hn0,rfl⟩:=h0 _ _ rfl
  obtain rfl:=List.eq_nil_of_length_eq_zero hn0
  refine wpList_append_own_none hgd s x t ho base e i 1 ht h1' v n xs hs hown hx (h v w ?_ (grown_refl _ _))
  simpa [cellsI] using hown
 |some ad =>
  refine wpList_append_own w hgd s x t ho base e i z 1 bytes ht h1' h2' h3' h4' hzs (by decide) v n xs hs hown ad l.length c (cellsI l) hx (by simp[cellsI]) ?_ (cellsI_one l) ?_ ?_ hbase (fun v' w' a1 a2 _=>h v' w' a1 a2)
  ·intro j u' hj
   have hjl:j<l.length:=by
    have:=(List.getElem?_eq_some_iff.1 hj).1
    simpa [cellsI] using this
   obtain ⟨e1,_⟩:=ha (by omega)
   obtain rfl:=Option.some.inj e1
   rw[addr_addO,hcell j hjl,←cellsI_at l j hjl,hj]
  ·unfold maxLen;omega
  ·exact Nat.le_trans (Nat.mul_le_mul_left _ hby) (by omega)
end
theorem Ints.lit {w:World} {g:Nat} {t:TypeId} {fr:Nat×Nat} {l:List Int} (h:w.heap[g]?=some (.cells (cellsI l).toArray t fr)):Ints w (.slice (some ⟨g,0,none⟩) l.length l.length) l :=
 ⟨_,g,0,_,rfl,Nat.le_refl _,fun _=>⟨rfl,blk_lt h⟩,fun j hj=>by rw[Nat.zero_add];exact cell_blk h j (by simpa using cellsI_at l j hj)⟩
theorem elemInt:Tryz.prog.underlying 41=some (.slice (Tryz.prog.elem 41)):=by kernel_rfl
theorem sizeIntE (w:World):(sizeOf (Tryz.prog.elem 41)).run Tryz.prog w=.ok 1 w:=by kernel_rfl
@[go_sem high] theorem run_fromI (w:World) (a:Option Addr) (n c:Nat) (i:Int) (h0:0≤i) (h1:i≤n) :
  (Instr.slice 41 (.slice a n c) (some (.int .i64 i)) none none).run Tryz.prog w=.ok (.slice (subA a i.toNat c) (n-i.toNat) (c-i.toNat)) w:=by
 rw[run_slice_l w 41 a n c elemInt .i64 i h0 h1,sizeIntE]
 simp only[Result.andThen,sliced,Nat.mul_one,subA]
@[go_sem high] theorem run_fromI_2 (w:World) (a:Option Addr) (n c:Nat) :
  (Instr.slice 41 (.slice a (n+2) c) (some (.int .i64 2)) none none).run Tryz.prog w=.ok (.slice (subA a 2 c) n (c-2)) w:=by
 rw[run_fromI w a (n+2) c 2 (by decide) (by omega)]
 rfl
@[go_sem high] theorem run_fromI_1 (w:World) (a:Option Addr) (n c:Nat) :
  (Instr.slice 41 (.slice a (n+1) c) (some (.int .i64 1)) none none).run Tryz.prog w=.ok (.slice (subA a 1 c) n (c-1)) w:=by
 rw[run_fromI w a (n+1) c 1 (by decide) (by omega)]
 rfl
@[go_sem high] theorem run_toI (w:World) (a:Option Addr) (n c:Nat) (i:Int) (h0:0≤i) (h1:i≤c) :
  (Instr.slice 41 (.slice a n c) none (some (.int .i64 i)) none).run Tryz.prog w=.ok (.slice a i.toNat c) w:=by
 have hadd:∀ x:Addr,x.add 0=x:=fun x=>by unfold Addr.add;split <;> simp_all
 rw[run_slice_h w 41 a n c elemInt .i64 i h0 h1,sizeIntE]
 simp only[Result.andThen,sliced,Nat.mul_one,Nat.sub_zero]
 congr 2
 split
 ·rfl
 ·cases a <;> simp[hadd]
def seg (l:List Nat) (i j:Nat):List Nat:=(l.drop i).take (j-i)
theorem extract_seg (s:ByteArray) (i j:Nat):s.extract i j=strOf (seg (strL s) i j):=by
 apply strL_inj
 have hl:∀ x∈seg (strL s) i j,x<256:=fun x hx=>strL_lt s x (List.mem_of_mem_drop (List.mem_of_mem_take hx))
 rw[strL_strOf hl]
 unfold strL seg
 rw[ByteArray.data_extract,Array.toList_extract,List.extract_eq_take_drop,List.map_take,List.map_drop]
theorem seg_self (l:List Nat) (i:Nat):seg l i i=[]:=by simp[seg]
theorem seg_snoc (l:List Nat) (i k:Nat) (h:i≤k) (hk:k<l.length):seg l i (k+1)=seg l i k++[l.getD k 0]:=by
 unfold seg
 rw[show k+1-i=(k-i)+1 by omega,List.take_add_one,List.getElem?_drop,show i+(k-i)=k by omega,List.getElem?_eq_getElem hk]
 simp[List.getD_eq_getElem?_getD,hk]
def cellsS (ps:List (List Nat)):List Value:=ps.map fun p=>Value.string (strOf p)
theorem cellsS_len (l:List (List Nat)):(cellsS l).length=l.length:=by simp[cellsS]
theorem cellsS_append (a b:List (List Nat)):cellsS (a++b)=cellsS a++cellsS b:=by simp[cellsS]
theorem cellsS_at (l:List (List Nat)) (j:Nat) (h:j<l.length):(cellsS l)[j]?=some (.string (strOf (l.getD j []))):=by simp[cellsS,h]
def Strs (w:World) (v:Value) (l:List (List Nat)):Prop :=
 ∃ (a:Option Addr) (sb so c:Nat),v=.slice a l.length c∧l.length≤c∧(0<l.length→a=some ⟨sb,so,none⟩∧sb<w.heap.size)∧∀ j,j<l.length→w.cell? ⟨sb,so+j,none⟩=some (.string (strOf (l.getD j [])))
theorem Strs.own {w:World} {base:Nat} {e:TypeId} {v:Value} {n:Nat} {l:List (List Nat)} (h:w.ownsRow base e 1 v n (cellsS l)):Strs w v l:=by
 have hn:=h.1
 rw[cellsS_len,Nat.mul_one] at hn
 subst hn
 obtain ⟨a,g,c,rfl,h1,h2,h3,h4⟩:=ownsRow_form h
 refine ⟨a,g,0,c,rfl,h1,fun hp=>⟨(h3 hp).1,(h3 hp).2.2⟩,fun j hj=>?_⟩
 rw[Nat.zero_add,h4 j hj,cellsS_at l j hj]
structure FrS (w w':World) (v:Value) (l:List (List Nat)):Prop where
 grown:w.grownBy w' none
 own:w'.ownsRow w.heap.size 9 1 v l.length (cellsS l)
theorem FrS.alloc {w w':World} {v:Value} {l:List (List Nat)} (h:FrS w w' v l) (o:Obj):FrS w (w'.alloc o) v l:=⟨grown_alloc h.grown o,h.own.alloc o⟩
theorem FrS.step {w b c:World} {v v':Value} {l l':List (List Nat)} {n':Nat} {xs:List Value} (h:FrS w b v l) (ho:c.ownsRow w.heap.size 9 1 v' n' xs) (hg:b.grownBy c v.ownBlock) (e:xs=cellsS l'):FrS w c v' l':=by
 subst e
 have hn:n'=l'.length:=by have:=ho.1;rw[cellsS_len] at this;omega
 subst hn
 exact ⟨grown_own h.grown h.own (Nat.le_refl _) hg,ho⟩
theorem FrS.le {w w':World} {v:Value} {l:List (List Nat)} (h:FrS w w' v l):w.heap.size≤w'.heap.size:=h.grown.size
@[go_sem high] theorem run_lh8n (w:World) (a:Option Addr) (n c l h:Nat) (h1:l≤h) (h2:h≤c) :
  (Instr.slice 27 (.slice a n c) (some (.int .i64 (l:Int))) (some (.int .i64 (h:Int))) none).run Tryz.prog w=.ok (.slice (subA a l c) (h-l) (c-l)) w:=by
 rw[run_slice_lh w 27 a n c elemU8 .i64 .i64 (l:Int) (h:Int) (by omega) (by omega) (by omega),sizeU8]
 simp only[Result.andThen,sliced,Nat.mul_one,subA,Int.toNat_natCast]
def lenV:Value→Nat
 |.slice _ n _=>n
 |_=>0
theorem be_at (k n j:Nat) (h:j<k):(Wh.be k n).getD j 0=n/256 ^ (k-1-j)%256:=by
 induction k generalizing j with
 |zero=>omega
 |succ k ih =>
  match j with
  |0=>simp[Wh.be]
  |j+1 =>
   rw[Wh.be,List.getD_cons_succ,ih j (by omega)]
   congr 3
   omega
theorem be_take_succ (k n j:Nat) (h:j<k):(Wh.be k n).take (j+1)=(Wh.be k n).take j++[n/256 ^ (k-1-j)%256]:=by
 have hl:j<(Wh.be k n).length:=by rw[Wh.be_len];exact h
 rw[List.take_add_one,List.getElem?_eq_getElem hl,←be_at k n j h,List.getD_eq_getElem?_getD,List.getElem?_eq_getElem hl]
 rfl
theorem byte_eq (U m:Nat):((U:Int)/2 ^ (8*m)%256)=((U/256 ^ m%256:Nat):Int):=by
 have e:((2:Int) ^ (8*m))=((256 ^ m:Nat):Int):=by
  rw[show (256:Nat)=2 ^ 8 from rfl,←Nat.pow_mul]
  simp
 rw[e,Int.natCast_emod,Int.natCast_ediv]
 rfl
theorem refWPut_any (n:Int) (w:World) :
  Calls Tryz.prog 127 #[.int .i64 n] w fun e w'=>∃ v,e=.returned v∧w.grownBy w' none∧Bytes w' v (Wh.body n)∧Whole0 v:=by
 have hu:IntKind.u64.wrap n=((Wh.u64 n:Nat):Int):=by
  simp only[IntKind.wrap,IntKind.bits,IntKind.signed,Wh.u64]
  simp
  omega
 have hU:Wh.u64 n<18446744073709551616:=by unfold Wh.u64;omega
 obtain ⟨L,hL⟩:∃ L,L=Wh.be 8 (Wh.u64 n):=⟨_,rfl⟩
 have HL:=hid hL
 have hbody:Wh.body n=Wh.strip L:=by rw[hL];rfl
 rw[hbody]
 have HA:=hid (fun k hk=>be_take_succ 8 (Wh.u64 n) k hk)
 rw[←hL] at HA
 generalize Wh.u64 n=U at *
 clear hL hbody
 have R0:Hid ((w.alloc (.cells #[] 5)).ownsRow w.heap.size 5 1 (.slice (some ⟨w.heap.size,0,none⟩) 0 0) 0 (cellsL (L.take 0))):=hid (ownsRow_lit (alloc_at w _) (Nat.le_refl _) (by simp))
 have G0:=hid (World.grownBy_alloc w (.cells #[] 5) none)
 go_enter Tryz.func127,Tryz.ntmps127
 go_wp2
 go_loopw [3,5] (fun b i wr=>∃ k:Nat,k≤8∧i=.int .i64 (7-(k:Int))∧wr.ownsRow w.heap.size 5 1 b k (cellsL (L.take k))∧w.grownBy wr none) (fun _ i _=>(intOf i+1).toNat)
 case atStart=>exact ⟨0,by omega,rfl,R0.out,G0.out⟩
 case round =>
  obtain ⟨k,hk,rfl,ho,hg⟩:=hrel
  have HO:=hid ho
  have HG:=hid hg
  clear ho hg
  by_cases hk8:k<8
  ·go_wp2_with (at_builtin;refine wpList_app1 (by rfl) (.tmp 13) (.tmp 20) 27 (by rfl) w.heap.size 5 (.int .u8 0) 1 Tryz.underlying27 (by kernel_rfl) rfl (by decide) _ _ _ (by rfl) (HO.out.alloc _) ⟨_,0,none⟩ _ (by rfl) (cell_blk (alloc_at _ _) 0 rfl) rfl (by omega) (by have:=HG.out.size;rw[alloc_size];omega) ?_;intro v' w3 ho3 hg3;have HO3:=hid ho3;have HG3:=hid (grown_own (grown_alloc HG.out _) (HO.out.alloc _) (Nat.le_refl _) hg3);clear ho3 hg3)
   go_roundw
   case rel =>
    refine ⟨k+1,by omega,by go_num,?_,HG3.out⟩
    have:=HO3.out
    rw[byte_eq] at this
    rw[HA.out k hk8,cellsL_append]
    exact this
   case measure=>simp[intOf];omega
  ·obtain rfl:k=8:=by omega
   obtain ⟨wo,rfl⟩:∃ wo:World,wo=wr:=⟨_,rfl⟩
   have hLl:L.length=8:=by rw[HL.out,Wh.be_len]
   have e8:L.take 8=L:=List.take_of_length_le (by omega)
   have hBy:=Bytes.own (by have:=HO.out;rw[e8] at this;exact this) (by rw[HL.out];exact Wh.be_lt U 8)
   have hW0:=Whole0.own HO.out
   obtain ⟨b0,hb0⟩:∃ b,b=L:=⟨_,rfl⟩
   have HLe:=hid hLl
   clear hLl e8 hb0
   go_wp2
   go_loopw [3] (fun b wr=>∃ (l:List Nat) (a:Option Addr) (m c:Nat),b=.slice a m c∧Bytes wr (.slice a m c) l∧Whole0 (.slice a m c)∧Wh.strip l=Wh.strip L∧l≠[]∧wr=wo) (fun b _=>lenV b)
   case atStart =>
    obtain ⟨_,_,c,hf,_⟩:=ownsRow_form HO.out
    exact ⟨L,_,_,_,hf,by rw[←hf];exact hBy,by rw[←hf];exact hW0,rfl,(by intro e;have:=HLe.out;rw[e] at this;simp at this),rfl⟩
   case round =>
    obtain ⟨l,a,m,c,rfl,hB,hW,hst,hne,rfl⟩:=hrel
    have HBy:=hid hB
    have HW0:=hid hW
    have Hst:=hid hst
    obtain ⟨hlt,_,sb,so,_,e,hc,ha,hcell⟩:=hB
    cases e
    match l,hne with
    |[x],_ =>
     have SSS:Wh.strip [x]=[x]:=rfl
     clear hlt ha hcell hW hst hBy hW0
     go_wp2
     go_ret
     exact ⟨_,rfl,HG.out,by rw[←Hst.out,SSS];exact HBy.out,HW0.out⟩
    |x :: y :: r,_ =>
     obtain ⟨rfl,ha2⟩:=ha (by simp)
     have c0:wr.cell? ⟨sb,so,none⟩=some (.int .u8 (x:Nat)):=hcell 0 (by simp)
     have c1:wr.cell? ⟨sb,so+1,none⟩=some (.int .u8 (y:Nat)):=hcell 1 (by simp)
     have hx:=hlt x (by simp)
     have hy:=hlt y (by simp)
     clear ha hcell hW hst hBy hW0 hlt
     by_cases hN:Wh.needless (x :: y :: r)=true
     ·have SSS:Wh.strip (x :: y :: r)=Wh.strip (y :: r):=by rw[Wh.strip,if_pos hN]
      simp only[Wh.needless,Bool.or_eq_true,Bool.and_eq_true,decide_eq_true_eq] at hN
      rcases hN with ⟨rfl,h2⟩|⟨rfl,h2⟩
      ·go_wp2
       go_roundw
       case rel =>
        first
         |exact ⟨y :: r,_,_,_,⟨rfl,rfl,rfl⟩,(HBy.out.from 1 (by simp)),(HW0.out.from 1),by rw[←Hst.out,SSS],by simp⟩
         |((repeat apply Exists.intro);refine ⟨⟨y :: r,subA (some ⟨sb,so,none⟩) 1 c,r.length+1,c-1,rfl,HBy.out.from 1 (by simp),HW0.out.from 1,by rw[←Hst.out,SSS],by simp⟩,?_⟩;and_intros <;> rfl)
       case measure=>simp[lenV]
      ·go_wp2
       go_roundw
       case rel =>
        first
         |exact ⟨y :: r,_,_,_,⟨rfl,rfl,rfl⟩,(HBy.out.from 1 (by simp)),(HW0.out.from 1),by rw[←Hst.out,SSS],by simp⟩
         |((repeat apply Exists.intro);refine ⟨⟨y :: r,subA (some ⟨sb,so,none⟩) 1 c,r.length+1,c-1,rfl,HBy.out.from 1 (by simp),HW0.out.from 1,by rw[←Hst.out,SSS],by simp⟩,?_⟩;and_intros <;> rfl)
       case measure=>simp[lenV]
     ·have SSS:Wh.strip (x :: y :: r)=x :: y :: r:=by rw[Wh.strip,if_neg hN]
      simp only[Wh.needless,Bool.or_eq_true,Bool.and_eq_true,decide_eq_true_eq] at hN
      have hcase:(x=0∧128≤y)∨(x=255∧y≤127)∨(x≠0∧x≠255):=by omega
      clear hN
      rcases hcase with ⟨rfl,h2⟩|⟨rfl,h2⟩|⟨h2,h3⟩
      ·go_wp2
       go_ret
       exact ⟨_,rfl,HG.out,by rw[←Hst.out,SSS];exact HBy.out,HW0.out⟩
      ·go_wp2
       go_ret
       exact ⟨_,rfl,HG.out,by rw[←Hst.out,SSS];exact HBy.out,HW0.out⟩
      ·go_wp2
       go_ret
       exact ⟨_,rfl,HG.out,by rw[←Hst.out,SSS];exact HBy.out,HW0.out⟩
theorem refSplit_any (s:ByteArray) (w:World) (hs:s.size≤1099511620000) :
  Calls Tryz.prog 164 #[.string s] w fun e w'=>∃ v,e=.returned v∧FrS w w' v (Od.split (strL s)):=by
 obtain ⟨L,hL⟩:∃ L,L=strL s:=⟨_,rfl⟩
 obtain ⟨n,hn⟩:∃ n,n=s.size:=⟨_,rfl⟩
 have hLn:L.length=n:=by rw[hL,strL_len,hn]
 have HIx:Hid (∀ j:Nat,j<n→∀ W,(Instr.index 9 (.string s) (.int .i64 (j:Int))).run Tryz.prog W=.ok (.int .u8 (L.getD j 0:Nat)) W):=hid (fun j hj W=>by
  have hjs:j<s.size:=by omega
  have h2:(0:Int)≤(j:Int)∧(j:Int)<(s.size:Int):=⟨by omega,by omega⟩
  have e:=strL_getD s j hjs
  rw[←hL] at e
  rw[run_index_string W _ s .i64 j Tryz.underlying9,dif_pos h2,←e]
  rfl)
 have HEx:Hid (∀ i j,s.extract i j=strOf (seg L i j)):=hid (fun i j=>by rw[hL];exact extract_seg s i j)
 have hsz:((s.size:Nat):Int)=n:=by rw[hn]
 have HN:=hid hn
 have HLn:=hid hLn
 rw[←hL]
 have HSp0:Hid (Od.split L=[]++Od.splitA (seg L 0 0) (L.drop 0)):=hid (by rw[seg_self];rfl)
 have HStep:Hid (∀ k last,last≤k→k<n→Od.splitA (seg L last k) (L.drop k)=if L.getD k 0=46 then seg L last k :: Od.splitA (seg L (k+1) (k+1)) (L.drop (k+1)) else Od.splitA (seg L last (k+1)) (L.drop (k+1))):=hid (fun k last h1 h2=>by
  have hk:k<L.length:=by omega
  rw[List.drop_eq_getElem_cons hk,Od.splitA,seg_self,seg_snoc L last k h1 hk]
  have:L.getD k 0=L[k]:=by rw[List.getD_eq_getElem?_getD,List.getElem?_eq_getElem hk];rfl
  rw[this])
 have HEnd:Hid (∀ last,Od.splitA (seg L last n) (L.drop n)=[seg L last n]):=hid (fun last=>by
  rw[List.drop_eq_nil_of_le (by omega),Od.splitA])
 have F0:Hid (FrS w (w.alloc (.cells #[] 9)) (.slice (some ⟨w.heap.size,0,none⟩) 0 0) []):=hid ⟨World.grownBy_alloc _ _ _,ownsRow_lit (alloc_at w _) (Nat.le_refl _) (by simp)⟩
 generalize Od.split L=SP at *
 have hn40:n≤1099511620000:=by omega
 clear hLn hn hL hs
 go_enter Tryz.func164,Tryz.ntmps164
 go_wp2
 go_loopw [3,4,5] (fun out last i wr=>∃ (k la:Nat) (ps:List (List Nat)),k≤n∧la≤k∧ps.length≤k∧last=.int .i64 la∧i=.int .i64 k∧FrS w wr out ps∧SP=ps++Od.splitA (seg L la k) (L.drop k)) (fun _ _ i _=>n-(intOf i).toNat)
 case atStart=>exact ⟨0,0,[],by omega,by omega,by simp,rfl,rfl,F0.out,HSp0.out⟩
 case round =>
  obtain ⟨k,la,ps,hk,hla,hps,rfl,rfl,hF,hSP⟩:=hrel
  have HF:=hid hF
  have HS:=hid hSP
  clear hF hSP
  by_cases hkn:k<n
  ·have hix:=HIx.out k hkn
   have hst:=HStep.out k la hla hkn
   have HSt:=hid hst
   clear hst
   generalize L.getD k 0=c at *
   by_cases hc:c=46
   ·subst hc
    have HSt2:Hid (Od.splitA (seg L la k) (L.drop k)=seg L la k :: Od.splitA (seg L (k+1) (k+1)) (L.drop (k+1))):=hid (by rw[HSt.out,if_pos rfl])
    go_wp2_with (at_builtin;refine wpList_app1 (by rfl) (.tmp 17) (.tmp 22) 215 (by rfl) w.heap.size 9 (.string ⟨#[]⟩) 16 Tryz.underlying215 (by kernel_rfl) rfl (by decide) _ ps.length (cellsS ps) (by rfl) (HF.out.own.alloc _) ⟨_,0,none⟩ (.string (s.extract la k)) (by rfl) (cell_blk (alloc_at _ _) 0 rfl) rfl (by omega) (by have:=HF.out.le;rw[alloc_size];omega) ?_;intro v' w3 ho3 hg3;have F3:=hid ((HF.out.alloc _).step (l':=ps++[seg L la k]) ho3 hg3 (by rw[HEx.out,cellsS_append];rfl));clear ho3 hg3)
    go_roundw
    case rel=>exact ⟨k+1,k+1,ps++[seg L la k],by omega,by omega,by rw[List.length_append];simp;omega,by go_num,by go_num,F3.out,by rw[HS.out,HSt2.out,List.append_assoc];rfl⟩
    case measure=>simp[intOf];omega
   ·have HSt2:Hid (Od.splitA (seg L la k) (L.drop k)=Od.splitA (seg L la (k+1)) (L.drop (k+1))):=hid (by rw[HSt.out,if_neg hc])
    have hcb:((c:Int)==46)=false:=by simp;omega
    go_wp2
    go_roundw
    case rel=>exact ⟨k+1,la,ps,by omega,by omega,by omega,rfl,by go_num,HF.out,by rw[HS.out,HSt2.out]⟩
    case measure=>simp[intOf];omega
  ·obtain rfl:k=n:=by omega
   have HEs:Hid (s.extract la s.size=strOf (seg L la k)):=hid (by rw[HEx.out,HN.out])
   go_wp2_with (at_builtin;refine wpList_app1 (by rfl) (.tmp 26) (.tmp 30) 215 (by rfl) w.heap.size 9 (.string ⟨#[]⟩) 16 Tryz.underlying215 (by kernel_rfl) rfl (by decide) _ ps.length (cellsS ps) (by rfl) (HF.out.own.alloc _) ⟨_,0,none⟩ (.string (s.extract la s.size)) (by rfl) (cell_blk (alloc_at _ _) 0 rfl) rfl (by omega) (by have:=HF.out.le;rw[alloc_size];omega) ?_;intro v' w3 ho3 hg3;have F3:=hid ((HF.out.alloc _).step (l':=ps++[seg L la k]) ho3 hg3 (by rw[HEs.out,cellsS_append];rfl));clear ho3 hg3)
   go_ret
   exact ⟨_,rfl,by rw[HS.out,HEnd.out];exact F3.out⟩
theorem retBo {a b:Bool} (h:a=b):Ending.returned (.bool a)=.returned (.bool b):=by rw[h]
theorem sameI_any (v1 v2:Value) (l m:List Int) (w:World) (h1:Ints w v1 l) (h2:Ints w v2 m) (hl:l.length≤1099511627776) (hm:m.length≤1099511627776) :
  Calls Tryz.prog 15 #[v1,v2] w fun e w'=>e=.returned (.bool (decide (l=m)))∧∃ q,w'=w.drewN q:=by
 obtain ⟨a1,g1,o1,c1,rfl,k1,k2,k3⟩:=h1
 obtain ⟨a2,g2,o2,c2,rfl,m1,m2,m3⟩:=h2
 by_cases hlen:l.length=m.length
 ·have K2:=hid k2
  have K3:=hid k3
  rw[←hlen] at m1 m2 m3 ⊢
  have M2:=hid m2
  have M3:=hid m3
  have HT:Hid ((∀ j,j<l.length→l.getD j 0=m.getD j 0)→decide (l=m)=true):=hid (fun h=>decide_eq_true (List.ext_getElem hlen (fun j h1 h2=>by
   have:=h j h1
   rw[List.getD_eq_getElem?_getD,List.getD_eq_getElem?_getD,List.getElem?_eq_getElem h1,List.getElem?_eq_getElem h2] at this
   simpa using this)))
  have HF:Hid (∀ j,l.getD j 0≠m.getD j 0→decide (l=m)=false):=hid (fun j h=>decide_eq_false (fun e=>h (by rw[e])))
  obtain ⟨n,hn⟩:∃ n,n=l.length:=⟨_,rfl⟩
  rw[←hn] at K2 K3 M2 M3 hl k1 m1 HT ⊢
  clear hn k2 k3 m2 m3 hm hlen
  generalize decide (l=m)=D at *
  go_enter Tryz.func15,Tryz.ntmps15
  go_wp2
  go_loopw [13] (fun i wr=>∃ k q:Nat,k≤n∧i=.int .i64 k∧wr=w.drewN q∧∀ j,j<k→l.getD j 0=m.getD j 0) (fun i _=>n-(intOf i).toNat)
  case atStart=>exact ⟨0,0,Nat.zero_le _,rfl,rfl,fun j hj=>absurd hj (Nat.not_lt_zero _)⟩
  case round =>
   obtain ⟨k,q,hk,rfl,rfl,hall⟩:=hrel
   have HAll:=hid hall
   clear hall
   by_cases hlt:k<n
   ·obtain ⟨rfl,_⟩:=K2.out (by omega)
    obtain ⟨rfl,_⟩:=M2.out (by omega)
    have f1:=K3.out k hlt
    have f2:=M3.out k hlt
    by_cases hxy:l.getD k 0=m.getD k 0
    ·have HXY:=hid hxy
     rw[←hxy] at f2
     clear hxy
     generalize hx:l.getD k 0=x at *
     have hb:(x != x)=false:=by simp
     have HX:=hid hx
     clear hx
     go_wp2
     go_quiet (fail)
     go_wp2
     go_roundw
     case rel=>exact ⟨k+1,_,by omega,by go_num,rfl,fun j hj=>(by
      rcases Nat.lt_or_ge j k with h|h
      ·exact HAll.out j h
      ·obtain rfl:j=k:=by omega
       rw[HX.out];exact HXY.out)⟩
     case measure=>simp[intOf];omega
    ·have hD:=HF.out k hxy
     generalize l.getD k 0=x at *
     generalize m.getD k 0=y at *
     have hb:(x != y)=true:=by simp[hxy]
     clear hxy
     go_wp2
     go_quiet (fail)
     go_wp2
     go_ret
     exact ⟨retBo hD.symm,q+nq,by simp[World.drewN,Nat.add_assoc]⟩
   ·obtain rfl:k=n:=by omega
    have hD:=HT.out HAll.out
    go_wp2
    go_ret
    exact ⟨retBo hD.symm,_,rfl⟩
 ·have hD:decide (l=m)=false:=decide_eq_false (fun e=>hlen (by rw[e]))
  rw[hD]
  clear hD k2 k3 m2 m3
  generalize l.length=n at *
  generalize m.length=n' at *
  have hb:((n:Int) != (n':Int))=true:=by simp;omega
  go_enter Tryz.func15,Tryz.ntmps15
  go_wp2
  go_ret
  exact ⟨rfl,0,rfl⟩
theorem refRight_any (v:Value) (l:List Int) (w:World) (hB:Ints w v l) :
  Calls Tryz.prog 166 #[v] w fun e w'=>e=.returned (.bool (Od.right l))∧w'=w:=by
 obtain ⟨a,sb,so,c,rfl,hc,ha,hcell⟩:=hB
 obtain ⟨n,hn⟩:∃ n,n=l.length:=⟨_,rfl⟩
 have hiff:=Od.right_iff l
 have hall:(∀ z∈l,0≤z∧z≤2147483647)↔∀ j,j<n→0≤l.getD j 0∧l.getD j 0≤2147483647:=by
  rw[hn]
  constructor
  ·intro h j hj
   have:=h l[j] (List.getElem_mem hj)
   rw[List.getD_eq_getElem?_getD,List.getElem?_eq_getElem hj]
   exact this
  ·intro h z hz
   obtain ⟨j,hj,rfl⟩:=List.mem_iff_getElem.1 hz
   have:=h j hj
   rw[List.getD_eq_getElem?_getD,List.getElem?_eq_getElem hj] at this
   exact this
 rw[hall] at hiff
 rw[←hn] at hc ha hcell hiff ⊢
 have HF:Hid (¬ ((2≤n∧n≤16∧0≤l.getD 0 0∧l.getD 0 0≤2∧(2≤l.getD 0 0∨l.getD 1 0≤39))∧∀ j,j<n→0≤l.getD j 0∧l.getD j 0≤2147483647)→Od.right l=false):=hid (fun h=>by
  rw[←hiff] at h
  simpa using h)
 have HT:=hid hiff.2
 clear hiff hall hn
 by_cases hlen:2≤n∧n≤16
 ·obtain ⟨h2,h16⟩:=hlen
  obtain ⟨rfl,_⟩:=ha (by omega)
  have c0:=hcell 0 (by omega)
  have c1:=hcell 1 (by omega)
  rw[Nat.add_zero] at c0
  have HC:=hid hcell
  clear hcell ha
  generalize Od.right l=D at *
  generalize hx:l.getD 0 0=x at *
  generalize hy:l.getD 1 0=y at *
  clear hx hy
  by_cases hx0:x<0
  ·have hD:=HF.out (fun h=>by have:=h.1.2.2.1;omega)
   clear HF HT
   go_enter Tryz.func166,Tryz.ntmps166
   go_wp2
   go_ret
   exact ⟨retBo (by simp[hD]),rfl⟩
  by_cases hx2:2<x
  ·have hD:=HF.out (fun h=>by have:=h.1.2.2.2.1;omega)
   clear HF HT
   go_enter Tryz.func166,Tryz.ntmps166
   go_wp2
   go_ret
   exact ⟨retBo (by simp),rfl⟩
  by_cases hx3:x<2∧39<y
  ·obtain ⟨hx3,hy3⟩:=hx3
   have hD:=HF.out (fun h=>by have:=h.1.2.2.2.2;omega)
   clear HF HT
   go_enter Tryz.func166,Tryz.ntmps166
   go_wp2
   go_ret
   exact ⟨retBo (by simp),rfl⟩
  have HF2:Hid (∀ j,j<n→¬ (0≤l.getD j 0∧l.getD j 0≤2147483647)→D=false):=hid (fun j hj h=>HF.out (fun k=>h (k.2 j hj)))
  have HT2:Hid ((∀ j,j<n→0≤l.getD j 0∧l.getD j 0≤2147483647)→D=true):=hid (fun h=>HT.out ⟨⟨h2,h16,by omega,by omega,by omega⟩,h⟩)
  clear HF HT
  have hcase:2≤x∨(x<2∧y≤39):=by omega
  clear hx3
  rcases hcase with hcase|⟨hca,hcb⟩
  ·go_enter Tryz.func166,Tryz.ntmps166
   go_wp2
   go_loopw [39] (fun i wr=>∃ k:Nat,k≤n∧i=.int .i64 k∧wr=w∧∀ j,j<k→0≤l.getD j 0∧l.getD j 0≤2147483647) (fun i _=>n-(intOf i).toNat)
   case atStart=>exact ⟨0,by omega,rfl,rfl,fun j hj=>absurd hj (Nat.not_lt_zero _)⟩
   case round =>
    obtain ⟨k,hk,rfl,rfl,hA⟩:=hrel
    have HA:=hid hA
    clear hA
    by_cases hkn:k<n
    ·have hck:=HC.out k hkn
     have HNx:=hid (HF2.out k hkn)
     generalize hz:l.getD k 0=z at *
     have HZ:=hid hz
     clear hz
     by_cases hz0:z<0
     ·have hD:=HNx.out (by omega)
      go_wp2
      go_ret
      exact ⟨retBo (by simp[hD]),rfl⟩
     ·by_cases hz1:2147483647<z
      ·have hD:=HNx.out (by omega)
       go_wp2
       go_ret
       exact ⟨retBo (by simp),rfl⟩
      ·have HZ2:Hid (0≤z∧z≤2147483647):=hid (by omega)
       go_wp2
       go_roundw
       case rel=>exact ⟨k+1,by omega,by go_num,trivial,fun j hj=>(by
        rcases Nat.lt_or_ge j k with h|h
        ·exact HA.out j h
        ·obtain rfl:j=k:=by omega
         rw[HZ.out];exact HZ2.out)⟩
       case measure=>simp[intOf];omega
    ·obtain rfl:k=n:=by omega
     have hD:=HT2.out HA.out
     go_wp2
     go_ret
     exact ⟨retBo (by simp[hD]),rfl⟩
  ·go_enter Tryz.func166,Tryz.ntmps166
   go_wp2
   go_loopw [39] (fun i wr=>∃ k:Nat,k≤n∧i=.int .i64 k∧wr=w∧∀ j,j<k→0≤l.getD j 0∧l.getD j 0≤2147483647) (fun i _=>n-(intOf i).toNat)
   case atStart=>exact ⟨0,by omega,rfl,rfl,fun j hj=>absurd hj (Nat.not_lt_zero _)⟩
   case round =>
    obtain ⟨k,hk,rfl,rfl,hA⟩:=hrel
    have HA:=hid hA
    clear hA
    by_cases hkn:k<n
    ·have hck:=HC.out k hkn
     have HNx:=hid (HF2.out k hkn)
     generalize hz:l.getD k 0=z at *
     have HZ:=hid hz
     clear hz
     by_cases hz0:z<0
     ·have hD:=HNx.out (by omega)
      go_wp2
      go_ret
      exact ⟨retBo (by simp[hD]),rfl⟩
     ·by_cases hz1:2147483647<z
      ·have hD:=HNx.out (by omega)
       go_wp2
       go_ret
       exact ⟨retBo (by simp),rfl⟩
      ·have HZ2:Hid (0≤z∧z≤2147483647):=hid (by omega)
       go_wp2
       go_roundw
       case rel=>exact ⟨k+1,by omega,by go_num,trivial,fun j hj=>(by
        rcases Nat.lt_or_ge j k with h|h
        ·exact HA.out j h
        ·obtain rfl:j=k:=by omega
         rw[HZ.out];exact HZ2.out)⟩
       case measure=>simp[intOf];omega
    ·obtain rfl:k=n:=by omega
     have hD:=HT2.out HA.out
     go_wp2
     go_ret
     exact ⟨retBo (by simp[hD]),rfl⟩
 ·have hD:=HF.out (fun h=>hlen ⟨h.1.1,h.1.2.1⟩)
  clear hcell HF HT ha
  by_cases h2:n<2
  ·go_enter Tryz.func166,Tryz.ntmps166
   go_wp2
   go_ret
   exact ⟨retBo (by simp),rfl⟩
  ·have h16:16<n:=by omega
   clear hlen
   go_enter Tryz.func166,Tryz.ntmps166
   go_wp2
   go_ret
   exact ⟨retBo (by simp),rfl⟩
theorem retB2 {a b:Bool} (h:a=b):Ending.returned (.bool a)=.returned (.bool b):=by rw[h]
theorem retI2 {a b:Int} (h:a=b):Ending.returned (.int .i64 a)=.returned (.int .i64 b):=by rw[h]
theorem refLeap_any (y:Int) (w:World):Calls Tryz.prog 168 #[.int .i64 y] w fun e w'=>e=.returned (.bool (Cal.leapI y))∧w'=w:=by
 have HL:Hid (Cal.leapI y=(decide (y.tmod 400=0)||(decide (y.tmod 4=0)&&decide (y.tmod 100≠0)))):=hid (by
  unfold Cal.leapI
  have e1:=Cal.tmod_zero y 400 (by decide)
  have e2:=Cal.tmod_zero y 4 (by decide)
  have e3:=Cal.tmod_zero y 100 (by decide)
  simp only[←e1,←e2,ne_eq,←e3])
 generalize Cal.leapI y=R at *
 generalize h1:y.tmod 400=a at *
 generalize h2:y.tmod 4=b at *
 generalize h3:y.tmod 100=c at *
 by_cases ha:a=0
 ·subst ha
  go_enter Tryz.func168,Tryz.ntmps168
  go_wp2
  go_ret
  exact ⟨retB2 (by rw[HL.out];simp),rfl⟩
 ·have ha':(a==0)=false:=beq_eq_false_iff_ne.2 ha
  by_cases hb:b=0
  ·subst hb
   by_cases hc:c=0
   ·subst hc
    go_enter Tryz.func168,Tryz.ntmps168
    go_wp2
    go_ret
    exact ⟨retB2 (by rw[HL.out];simp[ha]),rfl⟩
   ·have hc':(c != 0)=true:=by rw[bne,beq_eq_false_iff_ne.2 hc];rfl
    go_enter Tryz.func168,Tryz.ntmps168
    go_wp2
    go_ret
    exact ⟨retB2 (by rw[HL.out];simp[hc]),rfl⟩
  ·have hb':(b==0)=false:=beq_eq_false_iff_ne.2 hb
   go_enter Tryz.func168,Tryz.ntmps168
   go_wp2
   go_ret
   exact ⟨retB2 (by rw[HL.out];simp[ha,hb]),rfl⟩
def monthsL:List Int:=[31,28,31,30,31,30,31,31,30,31,30,31]
theorem months_at {y:Int} (m:Nat) (h1:m<12) (h2:(m:Int)+1≠2∨Cal.leapI y=false):monthsL.getD m 0=(Cal.daysI y ((m:Int)+1):Nat):=by
 match m,h1 with
 |0,_=>rfl
 |1,_ =>
  rcases h2 with h|h
  ·exact absurd rfl h
  ·simp[Cal.daysI,h,monthsL]
 |2,_=>rfl
 |3,_=>rfl
 |4,_=>rfl
 |5,_=>rfl
 |6,_=>rfl
 |7,_=>rfl
 |8,_=>rfl
 |9,_=>rfl
 |10,_=>rfl
 |11,_=>rfl
theorem refDays_any (y m:Int) (w:World):Calls Tryz.prog 169 #[.int .i64 y,.int .i64 m] w fun e w'=>e=.returned (.int .i64 ((Cal.daysI y m:Nat):Int))∧w.grownBy w' none:=by
 have HL:=hid (refLeap_any y)
 by_cases h1:m<1
 ·have HR:Hid (Cal.daysI y m=0):=hid (by rw[Cal.daysI,if_pos (.inl h1)])
  rw[HR.out]
  go_enter Tryz.func169,Tryz.ntmps169
  go_wp2
  go_ret
  exact ⟨rfl,grown_refl _ _⟩
 ·by_cases h2:12<m
  ·have HR:Hid (Cal.daysI y m=0):=hid (by rw[Cal.daysI,if_pos (.inr h2)])
   rw[HR.out]
   go_enter Tryz.func169,Tryz.ntmps169
   go_wp2
   go_ret
   exact ⟨rfl,grown_refl _ _⟩
  ·obtain ⟨k,hk⟩:∃ k:Nat,m=(k:Int)+1:=⟨(m-1).toNat,by omega⟩
   have hk12:k<12:=by omega
   have hcell:(w.alloc (.cells #[.int .i64 31,.int .i64 28,.int .i64 31,.int .i64 30,.int .i64 31,.int .i64 30,.int .i64 31,.int .i64 31,.int .i64 30,.int .i64 31,.int .i64 30,.int .i64 31] 3)).cell? ⟨w.heap.size,k,none⟩=some (.int .i64 (monthsL.getD k 0)):=by
    have:=cell_blk (alloc_at w (.cells (cellsI monthsL).toArray 3)) k (by simpa using cellsI_at monthsL k hk12)
    exact this
   by_cases hm2:m=2
   ·by_cases hl:Cal.leapI y=true
    ·have HR:Hid (Cal.daysI y m=29):=hid (by rw[Cal.daysI,if_neg (by omega),if_pos hm2,if_pos hl])
     rw[HR.out]
     rw[hl] at HL
     clear HR hk hl
     subst hm2
     go_enter Tryz.func169,Tryz.ntmps169
     go_wp2_with (go_at_call 168;refine (HL.out _).mono ?_;rintro e w1 ⟨rfl,rfl⟩)
     go_ret
     exact ⟨rfl,World.grownBy_alloc _ _ _⟩
    ·have hlf:Cal.leapI y=false:=by rw[←Bool.not_eq_true];exact hl
     have HLf:Hid (∀ W,Calls Tryz.prog 168 #[.int .i64 y] W fun e w'=>e=.returned (.bool false)∧w'=W):=hid (fun W=>by have:=HL.out W;rw[hlf] at this;exact this)
     have HR:Hid (Cal.daysI y m=28):=hid (by rw[Cal.daysI,if_neg (by omega),if_pos hm2,if_neg hl])
     rw[HR.out]
     clear hk hl hlf HL HR hcell hk12
     subst hm2
     go_enter Tryz.func169,Tryz.ntmps169
     go_wp2_with (go_at_call 168;refine (HLf.out _).mono ?_;rintro e w1 ⟨rfl,rfl⟩)
     go_ret
     exact ⟨rfl,World.grownBy_alloc _ _ _⟩
   ·have hM:=months_at (y:=y) k hk12 (.inl (by omega))
    rw[hM,←hk] at hcell
    generalize Cal.daysI y m=R at *
    subst hk
    have hb:((k:Int)+1==2)=false:=beq_eq_false_iff_ne.2 hm2
    clear hM hm2
    go_enter Tryz.func169,Tryz.ntmps169
    go_wp2_with (go_at_call 168;refine (HL.out _).mono ?_;rintro e w1 ⟨rfl,rfl⟩)
    go_ret
    exact ⟨rfl,World.grownBy_alloc _ _ _⟩
namespace Na
structure Sb where
 k:Int
 sp:ByteArray
 nm:ByteArray
def word (k:Int):ByteArray:=if k=1 then ⟨#[110,111,100,101]⟩ else if k=2 then ⟨#[119,111,114,107,108,111,97,100]⟩ else if k=3 then ⟨#[111,112,101,114,97,116,111,114]⟩ else if k=4 then ⟨#[98,111,111,116]⟩ else if k=5 then ⟨#[99,97]⟩ else ⟨#[]⟩
def right (s:Sb):Bool:=decide (1≤s.k∧s.k≤5)&&(Pt.label (strL s.nm)&&(if s.k=2 then Pt.label (strL s.sp) else decide (s.sp=⟨#[]⟩)))
end Na
theorem retB7 {a b:Bool} (h:a=b):Ending.returned (.bool a)=.returned (.bool b):=by rw[h]
namespace Pt
theorem label_false {l:List Nat} (k:Nat) (hk:k<l.length) (h:okc (l.getD k 0)=false):label l=false:=by
 have:l.all okc=false:=by
  rw[List.all_eq_false]
  refine ⟨l.getD k 0,?_,by rw[h];decide⟩
  rw[List.getD_eq_getElem?_getD,List.getElem?_eq_getElem hk];exact List.getElem_mem hk
 rw[label,this,Bool.and_false,Bool.and_false,Bool.and_false]
theorem label_true {l:List Nat} (h1:1≤l.length∧l.length≤24) (h2:l.getD 0 0≠45) (h3:l.getD (l.length-1) 0≠45) (h:∀ k,k<l.length→okc (l.getD k 0)=true):label l=true:=by
 have:l.all okc=true:=by
  rw[List.all_eq_true]
  intro x hx
  obtain ⟨k,hk,rfl⟩:=List.getElem_of_mem hx
  have:=h k hk
  rw[List.getD_eq_getElem?_getD,List.getElem?_eq_getElem hk] at this
  exact this
 rw[label,this,decide_eq_true h1,decide_eq_true h2,decide_eq_true h3];rfl
theorem label_head {l:List Nat} (h:¬ (1≤l.length∧l.length≤24)∨l.getD 0 0=45∨l.getD (l.length-1) 0=45):label l=false:=by
 rcases h with h|h|h
 ·rw[label,decide_eq_false h,Bool.false_and]
 ·rw[label,decide_eq_false (show ¬ l.getD 0 0≠45 from fun e=>e h),Bool.false_and,Bool.and_false]
 ·rw[label,decide_eq_false (show ¬ l.getD (l.length-1) 0≠45 from fun e=>e h),Bool.false_and,Bool.and_false,Bool.and_false]
theorem okc_iff (c:Nat):okc c=true↔(97≤c∧c≤122)∨(48≤c∧c≤57)∨c=45:=by simp[okc]
end Pt
theorem refLabel_any (s:ByteArray) (hs:s.size≤1000000) (w:World):Calls Tryz.prog 30 #[.string s] w fun e w'=>e=.returned (.bool (Pt.label (strL s)))∧w'=w:=by
 obtain ⟨L,hL⟩:∃ L,L=strL s:=⟨_,rfl⟩
 obtain ⟨n,hn⟩:∃ n,n=s.size:=⟨_,rfl⟩
 have hLn:L.length=n:=by rw[hL,strL_len,hn]
 have h8:∀ x∈L,x<256:=by rw[hL];exact strL_lt s
 have HIx:Hid (∀ j:Nat,j<n→∀ W,(Instr.index 9 (.string s) (.int .i64 (j:Int))).run Tryz.prog W=.ok (.int .u8 (L.getD j 0:Nat)) W):=hid (fun j hj W=>by
  have hjs:j<s.size:=by omega
  have h2:(0:Int)≤(j:Int)∧(j:Int)<(s.size:Int):=⟨by omega,by omega⟩
  have e:(s[j]'hjs).toNat=L.getD j 0:=by rw[hL];exact strL_getD s j hjs
  rw[run_index_string W _ s .i64 j Tryz.underlying9,dif_pos h2,←e]
  rfl)
 have hsz:(s.size:Int)=(n:Int):=by rw[hn]
 have H8:Hid (∀ j,L.getD j 0<256):=hid (fun j=>by
  rcases Nat.lt_or_ge j L.length with h|h
  ·rw[List.getD_eq_getElem?_getD,List.getElem?_eq_getElem h];exact h8 _ (List.getElem_mem h)
  ·rw[List.getD_eq_getElem?_getD,List.getElem?_eq_none h];decide)
 have HH:Hid (¬ (1≤n∧n≤24)∨L.getD 0 0=45∨L.getD (n-1) 0=45→Pt.label L=false):=hid (fun h=>Pt.label_head (by rw[hLn];exact h))
 have HF:Hid (∀ k,k<n→Pt.okc (L.getD k 0)=false→Pt.label L=false):=hid (fun k hk h=>Pt.label_false k (by omega) h)
 have HT:Hid (1≤n∧n≤24→L.getD 0 0≠45→L.getD (n-1) 0≠45→(∀ k,k<n→Pt.okc (L.getD k 0)=true)→Pt.label L=true):=hid (fun h1 h2 h3 h=>Pt.label_true (by rw[hLn];exact h1) h2 (by rw[hLn];exact h3) (fun k hk=>h k (by omega)))
 rw[←hL]
 obtain ⟨R,hR⟩:∃ R,R=Pt.label L:=⟨_,rfl⟩
 rw[←hR] at HH HF HT ⊢
 clear hR hL h8 hLn
 rcases Nat.lt_or_ge n 1 with n1|n1
 ·have HFF:=hid (HH.out (.inl (by omega)))
  go_enter Tryz.func30,Tryz.ntmps30
  go_wp2
  go_ret
  exact ⟨retB7 HFF.out.symm,rfl⟩
 ·rcases Nat.lt_or_ge 24 n with n2|n2
  ·have HFF:=hid (HH.out (.inl (by omega)))
   go_enter Tryz.func30,Tryz.ntmps30
   go_wp2
   go_ret
   exact ⟨retB7 HFF.out.symm,rfl⟩
  ·have i0:(Instr.index 9 (.string s) (.int .i64 0)).run Tryz.prog w=.ok (.int .u8 ((L.getD 0 0:Nat):Int)) w:=HIx.out 0 (by omega) w
   have b0:=H8.out 0
   by_cases q0:L.getD 0 0=45
   ·have HFF:=hid (HH.out (.inr (.inl q0)))
    rw[q0,show ((45:Nat):Int)=45 from rfl] at i0
    go_enter Tryz.func30,Tryz.ntmps30
    go_wp2
    go_ret
    exact ⟨retB7 HFF.out.symm,rfl⟩
   ·have i1:=HIx.out (n-1) (by omega) w
    rw[show (((n-1:Nat):Nat):Int)=(n:Int)-1 by omega] at i1
    have hne0:(((L.getD 0 0:Nat):Int)==45)=false:=beq_eq_false_iff_ne.2 (by omega)
    by_cases q1:L.getD (n-1) 0=45
    ·have HFF:=hid (HH.out (.inr (.inr q1)))
     rw[q1,show ((45:Nat):Int)=45 from rfl] at i1
     generalize L.getD 0 0=x0 at *
     clear q0
     go_enter Tryz.func30,Tryz.ntmps30
     go_wp2
     go_ret
     exact ⟨retB7 HFF.out.symm,rfl⟩
    ·have hne1:(((L.getD (n-1) 0:Nat):Int)==45)=false:=beq_eq_false_iff_ne.2 (by omega)
     have b1:=H8.out (n-1)
     have HTT:=hid (HT.out ⟨n1,n2⟩ q0 q1)
     generalize L.getD 0 0=x0 at *
     generalize L.getD (n-1) 0=x1 at *
     clear q0 q1
     go_enter Tryz.func30,Tryz.ntmps30
     go_wp2
     clear i0 i1 b0 b1
     go_loopw [3] (fun i wr=>∃ k:Nat,k≤n∧i=.int .i64 (k:Int)∧wr=w∧∀ j,j<k→Pt.okc (L.getD j 0)=true) (fun i _=>n-(intOf i).toNat)
     case atStart=>exact ⟨0,Nat.zero_le _,rfl,rfl,fun j hj=>absurd hj (Nat.not_lt_zero _)⟩
     case round =>
      obtain ⟨k,hk,rfl,rfl,hall⟩:=hrel
      have HAll:=hid hall
      clear hall
      by_cases hkn:k<n
      ·have ix:=HIx.out k hkn wr
       have hb:=H8.out k
       have HFk:=hid (HF.out k hkn)
       generalize hx:L.getD k 0=x at *
       have HX:=hid hx
       clear hx
       have HFb:Hid (¬ ((97≤x∧x≤122)∨(48≤x∧x≤57)∨x=45)→R=false):=hid (fun h=>HFk.out (by rw[←Bool.not_eq_true,Pt.okc_iff];exact h))
       have HNx:Hid ((97≤x∧x≤122)∨(48≤x∧x≤57)∨x=45→∀ j,j<k+1→Pt.okc (L.getD j 0)=true):=hid (fun h j hj=>by
        rcases Nat.lt_or_ge j k with h2|h2
        ·exact HAll.out j h2
        ·obtain rfl:j=k:=by omega
         rw[HX.out,Pt.okc_iff];exact h)
       by_cases e45:x=45
       ·have HOk:=hid (HNx.out (.inr (.inr e45)))
        clear HX
        subst e45
        go_wp2
        go_roundw
        case rel=>exact ⟨k+1,by omega,by go_num,trivial,HOk.out⟩
        case measure=>simp[intOf];omega
       ·have hne:((x:Int) != 45)=true:=by simp;omega
        clear e45
        rcases Nat.lt_or_ge x 48 with c1|c1
        ·have HFF:=hid (HFb.out (by intro h;rcases h with h|h|h <;> first|omega|(subst h;simp at hne)))
         go_wp2
         go_ret
         exact ⟨retB7 HFF.out.symm,rfl⟩
        ·rcases Nat.lt_or_ge 57 x with c2|c2
         ·rcases Nat.lt_or_ge x 97 with c3|c3
          ·have HFF:=hid (HFb.out (by omega))
           go_wp2
           go_ret
           exact ⟨retB7 HFF.out.symm,rfl⟩
          ·rcases Nat.lt_or_ge 122 x with c4|c4
           ·have HFF:=hid (HFb.out (by omega))
            go_wp2
            go_ret
            exact ⟨retB7 HFF.out.symm,rfl⟩
           ·have HOk:=hid (HNx.out (.inl ⟨c3,c4⟩))
            go_wp2
            go_roundw
            case rel=>exact ⟨k+1,by omega,by go_num,trivial,HOk.out⟩
            case measure=>simp[intOf];omega
         ·have HOk:=hid (HNx.out (.inr (.inl ⟨c1,c2⟩)))
          go_wp2
          go_roundw
          case rel=>exact ⟨k+1,by omega,by go_num,trivial,HOk.out⟩
          case measure=>simp[intOf];omega
      ·obtain rfl:k=n:=by omega
       have HFF:=hid (HTT.out HAll.out)
       go_wp2
       go_ret
       exact ⟨retB7 HFF.out.symm,rfl⟩
namespace Pt
def acc (c0:Nat) (l:List Nat):Nat→Nat
 |0=>c0
 |j+1=>acc c0 l j*64+(l.getD (j+1) 0-128)
theorem acc_zero (c0:Nat) (l:List Nat):acc c0 l 0=c0:=rfl
theorem acc_succ (c0:Nat) (l:List Nat) (j:Nat):acc c0 l (j+1)=acc c0 l j*64+(l.getD (j+1) 0-128):=rfl
def Con (l:List Nat) (j:Nat):Prop:=∀ t,t<j→128≤l.getD (t+1) 0∧l.getD (t+1) 0≤191
theorem con_succ {l:List Nat} {j:Nat} (h:Con l j) (h2:128≤l.getD (j+1) 0∧l.getD (j+1) 0≤191):Con l (j+1):=fun t ht=>by
 rcases Nat.lt_or_ge t j with k|k
 ·exact h t k
 ·obtain rfl:t=j:=by omega
  exact h2
theorem acc_le {l:List Nat} (h8:∀ j,l.getD j 0<256) {c0:Nat} (hc:c0≤31):∀ j,j≤3→acc c0 l j≤10000000:=by
 have x1:=h8 1
 have x2:=h8 2
 have x3:=h8 3
 have e0:acc c0 l 0=c0:=rfl
 have e1:acc c0 l 1=acc c0 l 0*64+(l.getD 1 0-128):=rfl
 have e2:acc c0 l 2=acc c0 l 1*64+(l.getD 2 0-128):=rfl
 have e3:acc c0 l 3=acc c0 l 2*64+(l.getD 3 0-128):=rfl
 have a1:acc c0 l 1≤2200:=by omega
 have a2:acc c0 l 2≤141000:=by omega
 have a3:acc c0 l 3≤10000000:=by omega
 intro j hj
 match j,hj with
 |0,_=>omega
 |1,_=>omega
 |2,_=>omega
 |3,_=>exact a3
def good (least v:Nat):Prop:=least≤v∧v≤1114111∧¬ (55296≤v∧v<57344)
theorem class2 (l:List Nat) (h1:192≤l.getD 0 0) (h2:l.getD 0 0<224):(1<l.length∧Con l 1∧good 128 (acc (l.getD 0 0-192) l 1)→step l=some 2)∧(¬ (1<l.length∧Con l 1∧good 128 (acc (l.getD 0 0-192) l 1))→step l=none):=by
 have e:acc (l.getD 0 0-192) l 1=(l.getD 0 0-192)*64+(l.getD 1 0-128):=rfl
 rw[step2 l h1 h2,e]
 unfold good
 constructor
 ·rintro ⟨a,b,c⟩
  have b0:=b 0 (by decide)
  rw[if_pos ⟨a,b0,c.1⟩]
 ·intro h
  rw[if_neg]
  rintro ⟨a,b,c⟩
  exact h ⟨a,fun t ht=>by obtain rfl:t=0:=(by omega);exact b,by omega⟩
theorem class3 (l:List Nat) (h1:224≤l.getD 0 0) (h2:l.getD 0 0<240):(2<l.length∧Con l 2∧good 2048 (acc (l.getD 0 0-224) l 2)→step l=some 3)∧(¬ (2<l.length∧Con l 2∧good 2048 (acc (l.getD 0 0-224) l 2))→step l=none):=by
 have e:acc (l.getD 0 0-224) l 2=((l.getD 0 0-224)*64+(l.getD 1 0-128))*64+(l.getD 2 0-128):=rfl
 rw[step3 l h1 h2,e]
 unfold good
 constructor
 ·rintro ⟨a,b,c⟩
  have b0:=b 0 (by decide)
  have b1:=b 1 (by decide)
  rw[if_pos ⟨a,b0,b1,c.1,c.2.2⟩]
 ·intro h
  rw[if_neg]
  rintro ⟨a,b,c,d,e⟩
  exact h ⟨a,fun t ht=>by match t,ht with|0,_=>exact b|1,_=>exact c,by omega⟩
theorem class4 (l:List Nat) (h1:240≤l.getD 0 0) (h2:l.getD 0 0<248):(3<l.length∧Con l 3∧good 65536 (acc (l.getD 0 0-240) l 3)→step l=some 4)∧(¬ (3<l.length∧Con l 3∧good 65536 (acc (l.getD 0 0-240) l 3))→step l=none):=by
 have e:acc (l.getD 0 0-240) l 3=(((l.getD 0 0-240)*64+(l.getD 1 0-128))*64+(l.getD 2 0-128))*64+(l.getD 3 0-128):=rfl
 rw[step4 l h1 h2,e]
 unfold good
 constructor
 ·rintro ⟨a,b,c⟩
  have b0:=b 0 (by decide)
  have b1:=b 1 (by decide)
  have b2:=b 2 (by decide)
  rw[if_pos ⟨a,b0,b1,b2,c.1,c.2.1⟩]
 ·intro h
  rw[if_neg]
  rintro ⟨a,b,c,d,e,f⟩
  exact h ⟨a,fun t ht=>by match t,ht with|0,_=>exact b|1,_=>exact c|2,_=>exact d,by omega⟩
end Pt
theorem refPlain_any (s:ByteArray) (hs:s.size≤1000000) (w:World):Calls Tryz.prog 163 #[.string s] w fun e w'=>e=.returned (.bool (Pt.plain (strL s)))∧w'=w:=by
 obtain ⟨L,hL⟩:∃ L,L=strL s:=⟨_,rfl⟩
 obtain ⟨n,hn⟩:∃ n,n=s.size:=⟨_,rfl⟩
 have hLn:L.length=n:=by rw[hL,strL_len,hn]
 have h8:∀ x∈L,x<256:=by rw[hL];exact strL_lt s
 have HIx:Hid (∀ j:Nat,j<n→∀ W,(Instr.index 9 (.string s) (.int .i64 (j:Int))).run Tryz.prog W=.ok (.int .u8 (L.getD j 0:Nat)) W):=hid (fun j hj W=>by
  have hjs:j<s.size:=by omega
  have h2:(0:Int)≤(j:Int)∧(j:Int)<(s.size:Int):=⟨by omega,by omega⟩
  have e:(s[j]'hjs).toNat=L.getD j 0:=by rw[hL];exact strL_getD s j hjs
  rw[run_index_string W _ s .i64 j Tryz.underlying9,dif_pos h2,←e]
  rfl)
 have hsz:(s.size:Int)=(n:Int):=by rw[hn]
 have HD:Hid (∀ p j,(L.drop p).getD j 0=L.getD (p+j) 0):=hid (fun p j=>by simp[List.getD_eq_getElem?_getD])
 have HDl:Hid (∀ p,(L.drop p).length=n-p):=hid (fun p=>by rw[List.length_drop,hLn])
 have H8:Hid (∀ j,L.getD j 0<256):=hid (fun j=>by
  rcases Nat.lt_or_ge j L.length with h|h
  ·rw[List.getD_eq_getElem?_getD,List.getElem?_eq_getElem h];exact h8 _ (List.getElem_mem h)
  ·rw[List.getD_eq_getElem?_getD,List.getElem?_eq_none h];decide)
 have HSt:Hid (∀ p,p<n→Pt.plain (L.drop p)=match Pt.step (L.drop p) with|none=>false|some k=>Pt.plain (L.drop (p+k))):=hid (fun p hp=>by
  have:=Pt.plain_step (l:=L.drop p) (fun x hx=>h8 x (List.mem_of_mem_drop hx)) (by intro e;have:=congrArg List.length e;rw[List.length_drop] at this;simp at this;omega)
  rw[this]
  cases Pt.step (L.drop p) with
  |none=>rfl
  |some k=>simp only[List.drop_drop])
 have HEnd:Hid (Pt.plain (L.drop n)=true):=hid (by rw[List.drop_eq_nil_of_le (by omega)];rfl)
 have H0:Hid (Pt.plain L=Pt.plain (L.drop 0)):=hid (by rw[List.drop_zero])
 rw[←hL]
 have hn1:n≤1000000:=by omega
 obtain ⟨R,hR⟩:∃ R,R=Pt.plain L:=⟨_,rfl⟩
 rw[←hR] at H0 ⊢
 clear hR hL h8 hLn hs
 go_enter Tryz.func163,Tryz.ntmps163
 go_wp2
 go_loopw [3] (fun i wr=>∃ p:Nat,p≤n∧i=.int .i64 (p:Int)∧wr=w∧R=Pt.plain (L.drop p)) (fun i _=>n-(intOf i).toNat)
 case atStart=>exact ⟨0,Nat.zero_le _,rfl,rfl,H0.out⟩
 case round =>
  obtain ⟨p,hp,rfl,rfl,hpl⟩:=hrel
  have HPl:=hid hpl
  clear hpl
  by_cases hpn:p<n
  ·have ix:=HIx.out p hpn wr
   have hst:=HSt.out p hpn
   have HG0:Hid ((L.drop p).getD 0 0=L.getD p 0):=hid (by rw[HD.out,Nat.add_zero])
   have hb8:=H8.out p
   have HSt1:=hid hst
   clear hst
   obtain ⟨b,hb⟩:∃ b,b=L.getD p 0:=⟨_,rfl⟩
   rw[←hb] at ix hb8 HG0
   have HBb:=hid hb
   clear hb
   rcases Nat.lt_or_ge b 128 with c1|c1
   ·by_cases c0:b<32∨b=127
    ·have HF:Hid (R=false):=hid (by rw[HPl.out,HSt1.out,Pt.step1 _ (by rw[HG0.out];exact c1),if_pos (by rw[HG0.out];exact c0)])
     rcases c0 with c0|c0
     ·go_wp2
      go_ret
      exact ⟨retB7 HF.out.symm,rfl⟩
     ·subst c0
      go_wp2
      go_ret
      exact ⟨retB7 HF.out.symm,rfl⟩
    ·have HT:Hid (R=Pt.plain (L.drop (p+1))):=hid (by rw[HPl.out,HSt1.out,Pt.step1 _ (by rw[HG0.out];exact c1),if_neg (by rw[HG0.out];exact c0)])
     have c2:¬ b<32:=fun h=>c0 (.inl h)
     have c3:((b:Int)==127)=false:=beq_eq_false_iff_ne.2 (fun h=>c0 (.inr (by omega)))
     clear c0
     go_wp2
     obtain ⟨wo,hwo⟩:∃ wo:World,wo=wr:=⟨_,rfl⟩
     rw[←hwo]
     have HWo:=hid hwo
     clear hwo ix
     go_loopw [3,4,5] (fun i c m wr=>i=.int .i64 ((p+1:Nat):Int)∧c=.int .i64 (b:Int)∧m=.int .i64 0∧wr=wo) (fun _ _ m _=>(intOf m).toNat)
     case atStart=>exact ⟨by go_num,rfl,rfl,rfl⟩
     case round =>
      obtain ⟨rfl,rfl,rfl,rfl⟩:=hrel
      go_wp2
      go_roundw
      case rel=>exact ⟨p+1,by omega,by go_num,HWo.out,HT.out⟩
      case measure=>simp[intOf];omega
   ·have HX:Hid (128≤b∧b<192∨248≤b→R=false):=hid (fun h=>by rw[HPl.out,HSt1.out,Pt.stepX _ (by rw[HG0.out];exact h) (by rw[HG0.out];exact hb8)])
    rcases Nat.lt_or_ge b 192 with c2|c2
    ·have HFF:Hid (R=false):=hid (HX.out (.inl ⟨c1,c2⟩))
     go_wp2
     go_ret
     exact ⟨retB7 HFF.out.symm,rfl⟩
    ·clear c1
     have c1:=c2
     clear c2
     rcases Nat.lt_or_ge b 224 with c2|c2
     ·have HC:=hid (Pt.class2 (L.drop p) (by rw[HG0.out];exact c1) (by rw[HG0.out];exact c2))
      rw[HG0.out,HDl.out] at HC
      have HF:Hid (¬ (1<n-p∧Pt.Con (L.drop p) 1∧Pt.good 128 (Pt.acc (b-192) (L.drop p) 1))→R=false):=hid (fun h=>by rw[HPl.out,HSt1.out,HC.out.2 h])
      have HT:Hid (1<n-p∧Pt.Con (L.drop p) 1∧Pt.good 128 (Pt.acc (b-192) (L.drop p) 1)→R=Pt.plain (L.drop (p+2))):=hid (fun h=>by rw[HPl.out,HSt1.out,HC.out.1 h])
      have HAl:=hid (Pt.acc_le (l:=L.drop p) (fun j=>by rw[HD.out];exact H8.out _) (c0:=b-192) (by omega))
      have HA:Hid (∀ j,Pt.acc (b-192) (L.drop p) (j+1)=Pt.acc (b-192) (L.drop p) j*64+(L.getD (p+(j+1)) 0-128)):=hid (fun j=>by rw[Pt.acc_succ,HD.out])
      have HA0:Hid (Pt.acc (b-192) (L.drop p) 0=b-192):=hid (Pt.acc_zero _ _)
      have HCs:Hid (∀ j,Pt.Con (L.drop p) j→128≤L.getD (p+(j+1)) 0∧L.getD (p+(j+1)) 0≤191→Pt.Con (L.drop p) (j+1)):=hid (fun j h h2=>Pt.con_succ h (by rw[HD.out];exact h2))
      have HCb:Hid (∀ j,j<1→¬ (128≤L.getD (p+(j+1)) 0∧L.getD (p+(j+1)) 0≤191)→¬ Pt.Con (L.drop p) 1):=hid (fun j hj h h2=>h (by have:=h2 j hj;rw[HD.out] at this;exact this))
      have HC0:Hid (Pt.Con (L.drop p) 0):=hid (fun t ht=>absurd ht (Nat.not_lt_zero _))
      go_wp2
      obtain ⟨wo,hwo⟩:∃ wo:World,wo=wr:=⟨_,rfl⟩
      rw[←hwo]
      have HWo:=hid hwo
      clear hwo ix
      generalize hAcc:Pt.acc (b-192) (L.drop p)=ac at *
      generalize Pt.Con (L.drop p)=CON at *
      simp only[show decide ((b:Int)<128)=false from decide_eq_false (by omega),show decide ((b:Int)<224)=true from decide_eq_true (by omega)]
      go_loopw [3,4,5] (fun i c m wr=>∃ j:Nat,j≤1∧i=.int .i64 ((p+1+j:Nat):Int)∧c=.int .i64 ((ac j:Nat):Int)∧m=.int .i64 ((1-j:Nat):Int)∧p+1+j≤n∧CON j∧wr=wo) (fun _ _ m _=>(intOf m).toNat)
      case atStart=>exact ⟨0,Nat.zero_le _,by go_num,by have:=HA0.out;go_num,by go_num,by omega,HC0.out,rfl⟩
      case round =>
       obtain ⟨j,hj,rfl,rfl,rfl,hjn,hco,rfl⟩:=hrel
       have HCo:=hid hco
       have ha:=HAl.out j (by omega)
       obtain ⟨a,hac⟩:∃ a,a=ac j:=⟨_,rfl⟩
       rw[←hac] at ha ⊢
       have HAc:=hid hac
       obtain ⟨q,hq⟩:∃ q,q=p+1+j:=⟨_,rfl⟩
       rw[←hq] at hjn ⊢
       have HQ:=hid hq
       obtain ⟨m,hm⟩:∃ m,m=1-j:=⟨_,rfl⟩
       rw[←hm]
       have HM:=hid hm
       have hm3:m≤3:=by omega
       clear hco hac
       by_cases hjj:j<1
       ·have hmp:0<m:=by omega
        clear hm
        by_cases hqn:q=n
        ·have HFF:Hid (R=false):=hid (HF.out (by have:=HQ.out;omega))
         subst hqn
         clear hq
         go_wp2
         go_ret
         exact ⟨retB7 HFF.out.symm,HWo.out⟩
        ·have hql:q<n:=by omega
         have iy:=HIx.out q hql wr
         have hb2:=H8.out q
         have hqne:((q:Int)==(n:Int))=false:=beq_eq_false_iff_ne.2 (by omega)
         have hqe:p+(j+1)=q:=by omega
         have HAj:=hid (HA.out j)
         have HCsj:=hid (HCs.out j HCo.out)
         have HCbj:=hid (HCb.out j hjj)
         rw[hqe] at HAj HCsj HCbj
         generalize L.getD q 0=y at *
         clear hq hqn hqe
         by_cases hy:128≤y∧y≤191
         ·obtain ⟨y1,y2⟩:=hy
          have HCn:=hid (HCsj.out ⟨y1,y2⟩)
          go_wp2
          go_roundw
          case rel=>exact ⟨j+1,by omega,by have:=HQ.out;go_num,by rw[HAj.out,←HAc.out];go_num,by have:=HM.out;go_num,by have:=HQ.out;omega,HCn.out,trivial⟩
          case measure=>simp[intOf];omega
         ·have HFF:Hid (R=false):=hid (HF.out (fun h=>HCbj.out hy h.2.1))
          rcases Nat.lt_or_ge y 128 with y1|y1
          ·clear hy
           go_wp2
           go_ret
           exact ⟨retB7 HFF.out.symm,HWo.out⟩
          ·have y2:191<y:=by omega
           clear hy
           go_wp2
           go_ret
           exact ⟨retB7 HFF.out.symm,HWo.out⟩
       ·obtain rfl:j=1:=by omega
        obtain rfl:m=0:=by omega
        have HFg:Hid (¬ Pt.good 128 a→R=false):=hid (fun h=>HF.out (fun h2=>h (by rw[HAc.out];exact h2.2.2)))
        have HTg:Hid (Pt.good 128 a→R=Pt.plain (L.drop (p+2))):=hid (fun h=>HT.out ⟨by have:=HQ.out;omega,HCo.out,by rw[←HAc.out];exact h⟩)
        clear hq hm
        rcases Nat.lt_or_ge a 128 with g1|g1
        ·have HFF:Hid (R=false):=hid (HFg.out (fun h=>by have:=h.1;omega))
         go_wp2
         go_ret
         exact ⟨retB7 HFF.out.symm,HWo.out⟩
        ·rcases Nat.lt_or_ge 1114111 a with g2|g2
         ·have HFF:Hid (R=false):=hid (HFg.out (fun h=>by have:=h.2.1;omega))
          go_wp2
          go_ret
          exact ⟨retB7 HFF.out.symm,HWo.out⟩
         ·rcases Nat.lt_or_ge a 55296 with g3|g3
          ·have HTT:=hid (HTg.out ⟨g1,g2,fun h=>by omega⟩)
           go_wp2
           go_roundw
           case rel=>exact ⟨p+2,by have:=HQ.out;omega,by have:=HQ.out;go_num,HWo.out,HTT.out⟩
           case measure=>have:=HQ.out;simp[intOf];omega
          ·rcases Nat.lt_or_ge a 57344 with g4|g4
           ·have HFF:Hid (R=false):=hid (HFg.out (fun h=>h.2.2 ⟨g3,g4⟩))
            go_wp2
            go_ret
            exact ⟨retB7 HFF.out.symm,HWo.out⟩
           ·have HTT:=hid (HTg.out ⟨g1,g2,fun h=>by omega⟩)
            go_wp2
            go_roundw
            case rel=>exact ⟨p+2,by have:=HQ.out;omega,by have:=HQ.out;go_num,HWo.out,HTT.out⟩
            case measure=>have:=HQ.out;simp[intOf];omega
     ·clear c1
      rcases Nat.lt_or_ge b 240 with c3|c3
      ·have HC:=hid (Pt.class3 (L.drop p) (by rw[HG0.out];exact c2) (by rw[HG0.out];exact c3))
       rw[HG0.out,HDl.out] at HC
       have HF:Hid (¬ (2<n-p∧Pt.Con (L.drop p) 2∧Pt.good 2048 (Pt.acc (b-224) (L.drop p) 2))→R=false):=hid (fun h=>by rw[HPl.out,HSt1.out,HC.out.2 h])
       have HT:Hid (2<n-p∧Pt.Con (L.drop p) 2∧Pt.good 2048 (Pt.acc (b-224) (L.drop p) 2)→R=Pt.plain (L.drop (p+3))):=hid (fun h=>by rw[HPl.out,HSt1.out,HC.out.1 h])
       have HAl:=hid (Pt.acc_le (l:=L.drop p) (fun j=>by rw[HD.out];exact H8.out _) (c0:=b-224) (by omega))
       have HA:Hid (∀ j,Pt.acc (b-224) (L.drop p) (j+1)=Pt.acc (b-224) (L.drop p) j*64+(L.getD (p+(j+1)) 0-128)):=hid (fun j=>by rw[Pt.acc_succ,HD.out])
       have HA0:Hid (Pt.acc (b-224) (L.drop p) 0=b-224):=hid (Pt.acc_zero _ _)
       have HCs:Hid (∀ j,Pt.Con (L.drop p) j→128≤L.getD (p+(j+1)) 0∧L.getD (p+(j+1)) 0≤191→Pt.Con (L.drop p) (j+1)):=hid (fun j h h2=>Pt.con_succ h (by rw[HD.out];exact h2))
       have HCb:Hid (∀ j,j<2→¬ (128≤L.getD (p+(j+1)) 0∧L.getD (p+(j+1)) 0≤191)→¬ Pt.Con (L.drop p) 2):=hid (fun j hj h h2=>h (by have:=h2 j hj;rw[HD.out] at this;exact this))
       have HC0:Hid (Pt.Con (L.drop p) 0):=hid (fun t ht=>absurd ht (Nat.not_lt_zero _))
       go_wp2
       obtain ⟨wo,hwo⟩:∃ wo:World,wo=wr:=⟨_,rfl⟩
       rw[←hwo]
       have HWo:=hid hwo
       clear hwo ix
       generalize hAcc:Pt.acc (b-224) (L.drop p)=ac at *
       generalize Pt.Con (L.drop p)=CON at *
       simp only[show decide ((b:Int)<128)=false from decide_eq_false (by omega),show decide ((b:Int)<224)=false from decide_eq_false (by omega),show decide ((b:Int)<240)=true from decide_eq_true (by omega)]
       go_loopw [3,4,5] (fun i c m wr=>∃ j:Nat,j≤2∧i=.int .i64 ((p+1+j:Nat):Int)∧c=.int .i64 ((ac j:Nat):Int)∧m=.int .i64 ((2-j:Nat):Int)∧p+1+j≤n∧CON j∧wr=wo) (fun _ _ m _=>(intOf m).toNat)
       case atStart=>exact ⟨0,Nat.zero_le _,by go_num,by have:=HA0.out;go_num,by go_num,by omega,HC0.out,rfl⟩
       case round =>
        obtain ⟨j,hj,rfl,rfl,rfl,hjn,hco,rfl⟩:=hrel
        have HCo:=hid hco
        have ha:=HAl.out j (by omega)
        obtain ⟨a,hac⟩:∃ a,a=ac j:=⟨_,rfl⟩
        rw[←hac] at ha ⊢
        have HAc:=hid hac
        obtain ⟨q,hq⟩:∃ q,q=p+1+j:=⟨_,rfl⟩
        rw[←hq] at hjn ⊢
        have HQ:=hid hq
        obtain ⟨m,hm⟩:∃ m,m=2-j:=⟨_,rfl⟩
        rw[←hm]
        have HM:=hid hm
        have hm3:m≤3:=by omega
        clear hco hac
        by_cases hjj:j<2
        ·have hmp:0<m:=by omega
         clear hm
         by_cases hqn:q=n
         ·have HFF:Hid (R=false):=hid (HF.out (by have:=HQ.out;omega))
          subst hqn
          clear hq
          go_wp2
          go_ret
          exact ⟨retB7 HFF.out.symm,HWo.out⟩
         ·have hql:q<n:=by omega
          have iy:=HIx.out q hql wr
          have hb2:=H8.out q
          have hqne:((q:Int)==(n:Int))=false:=beq_eq_false_iff_ne.2 (by omega)
          have hqe:p+(j+1)=q:=by omega
          have HAj:=hid (HA.out j)
          have HCsj:=hid (HCs.out j HCo.out)
          have HCbj:=hid (HCb.out j hjj)
          rw[hqe] at HAj HCsj HCbj
          generalize L.getD q 0=y at *
          clear hq hqn hqe
          by_cases hy:128≤y∧y≤191
          ·obtain ⟨y1,y2⟩:=hy
           have HCn:=hid (HCsj.out ⟨y1,y2⟩)
           go_wp2
           go_roundw
           case rel=>exact ⟨j+1,by omega,by have:=HQ.out;go_num,by rw[HAj.out,←HAc.out];go_num,by have:=HM.out;go_num,by have:=HQ.out;omega,HCn.out,trivial⟩
           case measure=>simp[intOf];omega
          ·have HFF:Hid (R=false):=hid (HF.out (fun h=>HCbj.out hy h.2.1))
           rcases Nat.lt_or_ge y 128 with y1|y1
           ·clear hy
            go_wp2
            go_ret
            exact ⟨retB7 HFF.out.symm,HWo.out⟩
           ·have y2:191<y:=by omega
            clear hy
            go_wp2
            go_ret
            exact ⟨retB7 HFF.out.symm,HWo.out⟩
        ·obtain rfl:j=2:=by omega
         obtain rfl:m=0:=by omega
         have HFg:Hid (¬ Pt.good 2048 a→R=false):=hid (fun h=>HF.out (fun h2=>h (by rw[HAc.out];exact h2.2.2)))
         have HTg:Hid (Pt.good 2048 a→R=Pt.plain (L.drop (p+3))):=hid (fun h=>HT.out ⟨by have:=HQ.out;omega,HCo.out,by rw[←HAc.out];exact h⟩)
         clear hq hm
         rcases Nat.lt_or_ge a 2048 with g1|g1
         ·have HFF:Hid (R=false):=hid (HFg.out (fun h=>by have:=h.1;omega))
          go_wp2
          go_ret
          exact ⟨retB7 HFF.out.symm,HWo.out⟩
         ·rcases Nat.lt_or_ge 1114111 a with g2|g2
          ·have HFF:Hid (R=false):=hid (HFg.out (fun h=>by have:=h.2.1;omega))
           go_wp2
           go_ret
           exact ⟨retB7 HFF.out.symm,HWo.out⟩
          ·rcases Nat.lt_or_ge a 55296 with g3|g3
           ·have HTT:=hid (HTg.out ⟨g1,g2,fun h=>by omega⟩)
            go_wp2
            go_roundw
            case rel=>exact ⟨p+3,by have:=HQ.out;omega,by have:=HQ.out;go_num,HWo.out,HTT.out⟩
            case measure=>have:=HQ.out;simp[intOf];omega
           ·rcases Nat.lt_or_ge a 57344 with g4|g4
            ·have HFF:Hid (R=false):=hid (HFg.out (fun h=>h.2.2 ⟨g3,g4⟩))
             go_wp2
             go_ret
             exact ⟨retB7 HFF.out.symm,HWo.out⟩
            ·have HTT:=hid (HTg.out ⟨g1,g2,fun h=>by omega⟩)
             go_wp2
             go_roundw
             case rel=>exact ⟨p+3,by have:=HQ.out;omega,by have:=HQ.out;go_num,HWo.out,HTT.out⟩
             case measure=>have:=HQ.out;simp[intOf];omega
      ·clear c2
       rcases Nat.lt_or_ge b 248 with c4|c4
       ·have HC:=hid (Pt.class4 (L.drop p) (by rw[HG0.out];exact c3) (by rw[HG0.out];exact c4))
        rw[HG0.out,HDl.out] at HC
        have HF:Hid (¬ (3<n-p∧Pt.Con (L.drop p) 3∧Pt.good 65536 (Pt.acc (b-240) (L.drop p) 3))→R=false):=hid (fun h=>by rw[HPl.out,HSt1.out,HC.out.2 h])
        have HT:Hid (3<n-p∧Pt.Con (L.drop p) 3∧Pt.good 65536 (Pt.acc (b-240) (L.drop p) 3)→R=Pt.plain (L.drop (p+4))):=hid (fun h=>by rw[HPl.out,HSt1.out,HC.out.1 h])
        have HAl:=hid (Pt.acc_le (l:=L.drop p) (fun j=>by rw[HD.out];exact H8.out _) (c0:=b-240) (by omega))
        have HA:Hid (∀ j,Pt.acc (b-240) (L.drop p) (j+1)=Pt.acc (b-240) (L.drop p) j*64+(L.getD (p+(j+1)) 0-128)):=hid (fun j=>by rw[Pt.acc_succ,HD.out])
        have HA0:Hid (Pt.acc (b-240) (L.drop p) 0=b-240):=hid (Pt.acc_zero _ _)
        have HCs:Hid (∀ j,Pt.Con (L.drop p) j→128≤L.getD (p+(j+1)) 0∧L.getD (p+(j+1)) 0≤191→Pt.Con (L.drop p) (j+1)):=hid (fun j h h2=>Pt.con_succ h (by rw[HD.out];exact h2))
        have HCb:Hid (∀ j,j<3→¬ (128≤L.getD (p+(j+1)) 0∧L.getD (p+(j+1)) 0≤191)→¬ Pt.Con (L.drop p) 3):=hid (fun j hj h h2=>h (by have:=h2 j hj;rw[HD.out] at this;exact this))
        have HC0:Hid (Pt.Con (L.drop p) 0):=hid (fun t ht=>absurd ht (Nat.not_lt_zero _))
        go_wp2
        obtain ⟨wo,hwo⟩:∃ wo:World,wo=wr:=⟨_,rfl⟩
        rw[←hwo]
        have HWo:=hid hwo
        clear hwo ix
        generalize hAcc:Pt.acc (b-240) (L.drop p)=ac at *
        generalize Pt.Con (L.drop p)=CON at *
        simp only[show decide ((b:Int)<128)=false from decide_eq_false (by omega),show decide ((b:Int)<224)=false from decide_eq_false (by omega),show decide ((b:Int)<240)=false from decide_eq_false (by omega),show decide ((b:Int)<248)=true from decide_eq_true (by omega)]
        go_loopw [3,4,5] (fun i c m wr=>∃ j:Nat,j≤3∧i=.int .i64 ((p+1+j:Nat):Int)∧c=.int .i64 ((ac j:Nat):Int)∧m=.int .i64 ((3-j:Nat):Int)∧p+1+j≤n∧CON j∧wr=wo) (fun _ _ m _=>(intOf m).toNat)
        case atStart=>exact ⟨0,Nat.zero_le _,by go_num,by have:=HA0.out;go_num,by go_num,by omega,HC0.out,rfl⟩
        case round =>
         obtain ⟨j,hj,rfl,rfl,rfl,hjn,hco,rfl⟩:=hrel
         have HCo:=hid hco
         have ha:=HAl.out j (by omega)
         obtain ⟨a,hac⟩:∃ a,a=ac j:=⟨_,rfl⟩
         rw[←hac] at ha ⊢
         have HAc:=hid hac
         obtain ⟨q,hq⟩:∃ q,q=p+1+j:=⟨_,rfl⟩
         rw[←hq] at hjn ⊢
         have HQ:=hid hq
         obtain ⟨m,hm⟩:∃ m,m=3-j:=⟨_,rfl⟩
         rw[←hm]
         have HM:=hid hm
         have hm3:m≤3:=by omega
         clear hco hac
         by_cases hjj:j<3
         ·have hmp:0<m:=by omega
          clear hm
          by_cases hqn:q=n
          ·have HFF:Hid (R=false):=hid (HF.out (by have:=HQ.out;omega))
           subst hqn
           clear hq
           go_wp2
           go_ret
           exact ⟨retB7 HFF.out.symm,HWo.out⟩
          ·have hql:q<n:=by omega
           have iy:=HIx.out q hql wr
           have hb2:=H8.out q
           have hqne:((q:Int)==(n:Int))=false:=beq_eq_false_iff_ne.2 (by omega)
           have hqe:p+(j+1)=q:=by omega
           have HAj:=hid (HA.out j)
           have HCsj:=hid (HCs.out j HCo.out)
           have HCbj:=hid (HCb.out j hjj)
           rw[hqe] at HAj HCsj HCbj
           generalize L.getD q 0=y at *
           clear hq hqn hqe
           by_cases hy:128≤y∧y≤191
           ·obtain ⟨y1,y2⟩:=hy
            have HCn:=hid (HCsj.out ⟨y1,y2⟩)
            go_wp2
            go_roundw
            case rel=>exact ⟨j+1,by omega,by have:=HQ.out;go_num,by rw[HAj.out,←HAc.out];go_num,by have:=HM.out;go_num,by have:=HQ.out;omega,HCn.out,trivial⟩
            case measure=>simp[intOf];omega
           ·have HFF:Hid (R=false):=hid (HF.out (fun h=>HCbj.out hy h.2.1))
            rcases Nat.lt_or_ge y 128 with y1|y1
            ·clear hy
             go_wp2
             go_ret
             exact ⟨retB7 HFF.out.symm,HWo.out⟩
            ·have y2:191<y:=by omega
             clear hy
             go_wp2
             go_ret
             exact ⟨retB7 HFF.out.symm,HWo.out⟩
         ·obtain rfl:j=3:=by omega
          obtain rfl:m=0:=by omega
          have HFg:Hid (¬ Pt.good 65536 a→R=false):=hid (fun h=>HF.out (fun h2=>h (by rw[HAc.out];exact h2.2.2)))
          have HTg:Hid (Pt.good 65536 a→R=Pt.plain (L.drop (p+4))):=hid (fun h=>HT.out ⟨by have:=HQ.out;omega,HCo.out,by rw[←HAc.out];exact h⟩)
          clear hq hm
          rcases Nat.lt_or_ge a 65536 with g1|g1
          ·have HFF:Hid (R=false):=hid (HFg.out (fun h=>by have:=h.1;omega))
           go_wp2
           go_ret
           exact ⟨retB7 HFF.out.symm,HWo.out⟩
          ·rcases Nat.lt_or_ge 1114111 a with g2|g2
           ·have HFF:Hid (R=false):=hid (HFg.out (fun h=>by have:=h.2.1;omega))
            go_wp2
            go_ret
            exact ⟨retB7 HFF.out.symm,HWo.out⟩
           ·have HTT:=hid (HTg.out ⟨g1,g2,fun h=>by omega⟩)
            go_wp2
            go_roundw
            case rel=>exact ⟨p+4,by have:=HQ.out;omega,by have:=HQ.out;go_num,HWo.out,HTT.out⟩
            case measure=>have:=HQ.out;simp[intOf];omega
       ·have HFF:Hid (R=false):=hid (HX.out (.inr c4))
        go_wp2
        go_ret
        exact ⟨retB7 HFF.out.symm,rfl⟩
  ·obtain rfl:p=n:=by omega
   have HFF:Hid (R=true):=hid (by rw[HPl.out,HEnd.out])
   go_wp2
   go_ret
   exact ⟨retB7 HFF.out.symm,rfl⟩
theorem refAsked_any (s:ByteArray) (most:Int) (hs:s.size≤1000000) (w:World):Calls Tryz.prog 128 #[.string s,.int .i64 most] w fun e w'=>e=.returned (.int .i64 ((Pt.asked (strL s) most:Nat):Int))∧w'=w:=by
 have HP:=hid (refPlain_any s hs w)
 have hLn:(strL s).length=s.size:=strL_len s
 generalize strL s=L at *
 by_cases h0:s.size=0
 ·have HR:Hid (Pt.asked L most=2):=hid (by rw[Pt.asked,if_pos (by omega)])
  rw[HR.out]
  go_enter Tryz.func128,Tryz.ntmps128
  go_wp2
  go_ret
  exact ⟨rfl,rfl⟩
 ·have hne:((s.size:Int)==0)=false:=beq_eq_false_iff_ne.2 (by omega)
  by_cases h1:most<(s.size:Int)
  ·have HR:Hid (Pt.asked L most=3):=hid (by rw[Pt.asked,if_neg (by omega),if_pos (by rw[hLn];exact h1)])
   rw[HR.out]
   clear h0
   go_enter Tryz.func128,Tryz.ntmps128
   go_wp2
   go_ret
   exact ⟨rfl,rfl⟩
  ·cases hp:Pt.plain L with
   |true =>
    have HR:Hid (Pt.asked L most=0):=hid (by rw[Pt.asked,if_neg (by omega),if_neg (by rw[hLn];exact h1),if_pos hp])
    rw[HR.out]
    rw[hp] at HP
    clear h0 hp
    go_enter Tryz.func128,Tryz.ntmps128
    go_wp2_with (go_at_call 163;refine HP.out.mono ?_;rintro e w1 ⟨rfl,rfl⟩)
    go_ret
    exact ⟨rfl,rfl⟩
   |false =>
    have HR:Hid (Pt.asked L most=8):=hid (by rw[Pt.asked,if_neg (by omega),if_neg (by rw[hLn];exact h1),if_neg (by rw[hp];decide)])
    rw[HR.out]
    rw[hp] at HP
    clear h0 hp
    go_enter Tryz.func128,Tryz.ntmps128
    go_wp2_with (go_at_call 163;refine HP.out.mono ?_;rintro e w1 ⟨rfl,rfl⟩)
    go_ret
    exact ⟨rfl,rfl⟩
end Go.Proofs.YtjjbkpjjmbfdhaaGreatDoor
