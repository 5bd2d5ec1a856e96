import Derived.Test.YtijkaknggdaajaaGreatDoorZw01
set_option linter.unusedVariables false
set_option linter.unusedSimpArgs false
set_option maxRecDepth 100000
set_option maxHeartbeats 1000000
namespace Go.Proofs.YtijkaknggdaajaaGreatDoor
open Go.Proofs.Tryz
open Lib (hid)
open Go.RowKit
section
variable {P:Program}
theorem Whole0.len {a:Option Addr} {n c:Nat} (h:Whole0 (.slice a n c)):a=none->n=0/\c=0:=fun e=>by subst e;exact h _ _ rfl
theorem Bytes.cap {w:World} {a:Option Addr} {n c:Nat} {l:List Nat} (h:Bytes w (.slice a n c) l):n=l.length/\n<=c:=by
 obtain⟨_,_,_,_,_,he,hc,_⟩:=h;cases he
 exact⟨rfl,hc⟩
def subA (a:Option Addr) (k c:Nat):Option Addr:=if c=k then a else a.map (·.add k)
theorem zIi {a:Option Addr} {k c:Nat} (h:subA a k c=none):a=none:=by
 unfold subA at h;split at h
 ·exact h
 ·cases a
  ·rfl
  ·cases h
theorem Bytes.from {w:World} {a:Option Addr} {n c:Nat} {l:List Nat} (hB:Bytes w (.slice a n c) l) (k:Nat) (hk:k<=n):Bytes w (.slice (subA a k c) (n-k) (c-k)) (l.drop k):=by
 obtain⟨h1,a1,sb,so,c1,he,hc,ha,hcell⟩:=hB;cases he
 refine⟨fun x hx=>h1 x (List.mem_of_mem_drop hx),subA a k c,sb,so+k,c-k,by rw[List.length_drop],by rw[List.length_drop];omega,fun hpos=>?_,fun j hj=>?_⟩
 ·rw[List.length_drop]at hpos;obtain⟨e,hlt⟩:=ha (by omega);refine⟨?_,hlt⟩;rw[subA,if_neg (by omega),e,Option.map_some,addr_addO]
 ·rw[List.length_drop]at hj;have:=hcell (k+j) (by omega);rw[<-Nat.add_assoc]at this;rw[this];simp[List.getD_eq_getElem?_getD]
theorem Whole0.from {a:Option Addr} {n c:Nat} (h0:Whole0 (.slice a n c)) (k:Nat):Whole0 (.slice (subA a k c) (n-k) (c-k)):=fun n' c' e=>by
 simp only[Value.slice.injEq]at e;obtain⟨e1,e2,e3⟩:=e;have:=h0.len (zIi e1);omega
theorem Bytes.to {w:World} {a:Option Addr} {n c:Nat} {l:List Nat} (hB:Bytes w (.slice a n c) l) (k:Nat) (hk:k<=n):Bytes w (.slice a k c) (l.take k):=by
 obtain⟨h1,a1,sb,so,c1,he,hc,ha,hcell⟩:=hB;cases he
 refine⟨fun x hx=>h1 x (List.mem_of_mem_take hx),a,sb,so,c,by rw[List.length_take,Nat.min_eq_left hk],by rw[List.length_take];omega,fun hpos=>?_,fun j hj=>?_⟩
 ·rw[List.length_take]at hpos;exact ha (by omega)
 ·rw[List.length_take]at hj;rw[hcell j (by omega)];simp[List.getD_eq_getElem?_getD,show j<k by omega]
theorem Whole0.to {a:Option Addr} {n c:Nat} (h0:Whole0 (.slice a n c)) (k:Nat) (hk:k<=n):Whole0 (.slice a k c):=fun n' c' e=>by
 simp only[Value.slice.injEq]at e;obtain⟨e1,e2,e3⟩:=e;have:=h0.len e1;omega
end
theorem zFq:prog.underlying 33=some (.slice (prog.elem 33)):=by kernel_rfl
theorem zGG (w:World):(sizeOf (prog.elem 33)).run prog w=.ok 1 w:=by kernel_rfl
@[go_sem high] theorem zIp (w:World) (a:Option Addr) (n c:Nat) (i:Int) (h0:0<=i) (h1:i<=n) :
  (Instr.slice 33 (.slice a n c) (some (.int .i64 i)) none none).run prog w=.ok (.slice (subA a i.toNat c) (n-i.toNat) (c-i.toNat)) w:=by
 rw[run_slice_l w 33 a n c zFq .i64 i h0 h1,zGG];simp only[Result.andThen,sliced,Nat.mul_one,subA]
@[go_sem high] theorem zLh (w:World) (a:Option Addr) (n c:Nat) :
  (Instr.slice 33 (.slice a (n+1) c) (some (.int .i64 1)) none none).run prog w=.ok (.slice (subA a 1 c) n (c-1)) w:=by
 rw[zIp w a (n+1) c 1 (by decide) (by omega)];rfl
@[go_sem high] theorem zMJ (w:World) (a:Option Addr) (n c:Nat) (i:Int) (h0:0<=i) (h1:i<=c) :
  (Instr.slice 33 (.slice a n c) none (some (.int .i64 i)) none).run prog w=.ok (.slice a i.toNat c) w:=by
 have hadd:∀ x:Addr,x.add 0=x:=fun x=>by unfold Addr.add;split <;> simp_all
 rw[run_slice_h w 33 a n c zFq .i64 i h0 h1,zGG];simp only[Result.andThen,sliced,Nat.mul_one,Nat.sub_zero]
 congr 2
 split
 ·rfl
 ·cases a
  ·rfl
  ·simp[hadd]
def Ints (w:World) (v:Value) (l:List Int):Prop :=
 ∃ (a:Option Addr) (sb so c:Nat),v=.slice a l.length c/\l.length<=c/\(0<l.length->a=some ⟨sb,so,none⟩/\sb<w.heap.size)/\∀ j,j<l.length->w.cell? ⟨sb,so+j,none⟩=some (.int .i64 (l.getD j 0))
def cellsI (l:List Int):List Value:=l.map fun z=>Value.int .i64 z
theorem zBc (l:List Int):(cellsI l).length=l.length:=by simp[cellsI]
theorem zD8 (l:List Int):∀ u∈cellsI l,u.oneCell'=true:=by
 intro u hu;simp only[cellsI,List.mem_map]at hu;obtain⟨z,_,rfl⟩:=hu;rfl
theorem zBo (a b:List Int):cellsI (a++b)=cellsI a++cellsI b:=by simp[cellsI]
theorem zCD (l:List Int) (j:Nat) (h:j<l.length):(cellsI l)[j]?=some (.int .i64 (l.getD j 0)):=by simp[cellsI,h]
theorem Ints.grown {w w':World} {v:Value} {l:List Int} (h:Ints w v l) (hg:w.grownBy w' none):Ints w' v l:=by
 obtain⟨a,sb,so,c,h1,h2,h3,h4⟩:=h;refine⟨a,sb,so,c,h1,h2,fun hp=>⟨(h3 hp).1,Nat.lt_of_lt_of_le (h3 hp).2 hg.size⟩,fun j hj=>?_⟩;rw[World.cell?_of_block (hg.block sb (h3 (by omega)).2 (by simp))];exact h4 j hj
theorem Ints.nil (w:World):Ints w (.slice none 0 0) []:=⟨none,0,0,0,rfl,Nat.le_refl _,fun h=>absurd h (Nat.lt_irrefl _),fun j hj=>absurd hj (Nat.not_lt_zero _)⟩
theorem Ints.own {w:World} {base:Nat} {e:TypeId} {v:Value} {n:Nat} {l:List Int} (h:w.ownsRow base e 1 v n (cellsI l)):Ints w v l:=by
 have hn:=h.1;rw[zBc,Nat.mul_one]at hn;subst hn;obtain⟨a,g,c,rfl,h1,h2,h3,h4⟩:=zAl h;refine⟨a,g,0,c,rfl,h1,fun hp=>⟨(h3 hp).1,(h3 hp).2.2⟩,fun j hj=>?_⟩;rw[Nat.zero_add,h4 j hj,zCD l j hj]
theorem Ints.cap {w:World} {a:Option Addr} {n c:Nat} {l:List Int} (h:Ints w (.slice a n c) l):n=l.length/\n<=c:=by
 obtain⟨_,_,_,_,he,hc,_⟩:=h;cases he
 exact⟨rfl,hc⟩
theorem Ints.from {w:World} {a:Option Addr} {n c:Nat} {l:List Int} (hB:Ints w (.slice a n c) l) (k:Nat) (hk:k<=n):Ints w (.slice (subA a k c) (n-k) (c-k)) (l.drop k):=by
 obtain⟨a1,sb,so,c1,he,hc,ha,hcell⟩:=hB;cases he
 refine⟨subA a k c,sb,so+k,c-k,by rw[List.length_drop],by rw[List.length_drop];omega,fun hpos=>?_,fun j hj=>?_⟩
 ·rw[List.length_drop]at hpos;obtain⟨e,hlt⟩:=ha (by omega);refine⟨?_,hlt⟩;rw[subA,if_neg (by omega),e,Option.map_some,addr_addO]
 ·rw[List.length_drop]at hj;have:=hcell (k+j) (by omega);rw[<-Nat.add_assoc]at this;rw[this];simp[List.getD_eq_getElem?_getD]
theorem Ints.to {w:World} {a:Option Addr} {n c:Nat} {l:List Int} (hB:Ints w (.slice a n c) l) (k:Nat) (hk:k<=n):Ints w (.slice a k c) (l.take k):=by
 obtain⟨a1,sb,so,c1,he,hc,ha,hcell⟩:=hB;cases he
 refine⟨a,sb,so,c,by rw[List.length_take,Nat.min_eq_left hk],by rw[List.length_take];omega,fun hpos=>?_,fun j hj=>?_⟩
 ·rw[List.length_take]at hpos;exact ha (by omega)
 ·rw[List.length_take]at hj;rw[hcell j (by omega)];simp[List.getD_eq_getElem?_getD,show j<k by omega]
structure FrI (w w':World) (v:Value) (l:List Int):Prop where
 grown:w.grownBy w' none
 own:w'.ownsRow w.heap.size 3 1 v l.length (cellsI l)
theorem FrI.alloc {w w':World} {v:Value} {l:List Int} (h:FrI w w' v l) (o:Obj):FrI w (w'.alloc o) v l:=⟨zAc h.grown o,h.own.alloc o⟩
theorem FrI.step {w b c:World} {v v':Value} {l l':List Int} {n':Nat} {xs:List Value} (h:FrI w b v l) (ho:c.ownsRow w.heap.size 3 1 v' n' xs) (hg:b.grownBy c v.ownBlock) (e:xs=cellsI l'):FrI w c v' l':=by
 subst e;have hn:n'=l'.length:=by have:=ho.1;rw[zBc]at this;omega
 subst hn;exact⟨zAR h.grown h.own (Nat.le_refl _) hg,ho⟩
theorem FrI.le {w w':World} {v:Value} {l:List Int} (h:FrI w w' v l):w.heap.size<=w'.heap.size:=h.grown.size
theorem FrI.ints {w w':World} {v:Value} {l:List Int} (h:FrI w w' v l):Ints w' v l:=Ints.own h.own
theorem FrI.more {w b c:World} {v:Value} {l:List Int} (h:FrI w b v l) (hg:b.grownBy c none):FrI w c v l:=⟨zAb h.grown hg,h.own.kept hg (Classical.em _)⟩
section
variable {P:Program}
theorem zDg {w:World} {ops:Array Oper} {rest:List Oper} {o:Oper} {a:Act} {Q:Exit->Act->World->Prop} (hgd:o.guard=none) (s x:Operand) (t:TypeId)
  (ho:o.op=.call { callee:=.builtin .append,args:=#[s,x],argTypes:=#[t,t] })
  (base:Nat) (e:TypeId) (z:Value) (bytes:Nat) (ht:P.underlying t=some (.slice e)) (hi:(P.info? e).map (fun i=>(i.zero,i.size,i.bytes))=some (some z,1,bytes)) (hzs:z.cells.size=1) (hby:bytes<=64)
  (v:Value) (n:Nat) (xs:List Value) (hs:a.eval s=v) (hown:w.ownsRow base e 1 v n xs)
  (u:Value) (l:List Int) (hx:a.eval x=u) (hB:Ints w u l) (h0:Whole0 u)
  (h63:n+l.length<=1099511627776) (hbase:base<=w.heap.size)
  (h:∀ v' w',w'.ownsRow base e 1 v' (n+l.length) (xs++cellsI l)->w.grownBy w' v.ownBlock->wpList P ops Q rest (a.put o.dst v') w'):wpList P ops Q (o :: rest) a w:=by
 obtain⟨i,h1',h2',h3',h4'⟩:=info_parts hi;obtain⟨ad,sb,so,c,rfl,hc,ha,hcell⟩:=hB
 match ad with
 |none =>
  obtain⟨hn0,rfl⟩:=h0 _ _ rfl;obtain rfl:=List.eq_nil_of_length_eq_zero hn0;refine wpList_append_own_none hgd s x t ho base e i 1 ht h1' v n xs hs hown hx (h v w ?_ (zAa _ _));simpa [cellsI]using hown
 |some ad =>
  refine wpList_append_own w hgd s x t ho base e i z 1 bytes ht h1' h2' h3' h4' hzs (by decide) v n xs hs hown ad l.length c (cellsI l) hx (by simp[cellsI]) ?_ (zD8 l) ?_ ?_ hbase (fun v' w' a1 a2 _=>h v' w' a1 a2)
  ·intro j u' hj;have hjl:j<l.length:=by
    have:=(List.getElem?_eq_some_iff.1 hj).1;simpa [cellsI]using this
   obtain⟨e1,_⟩:=ha (by omega);obtain rfl:=Option.some.inj e1;rw[addr_addO,hcell j hjl,<-zCD l j hjl,hj]
  ·unfold maxLen;omega
  ·exact Nat.le_trans (Nat.mul_le_mul_left _ hby) (by omega)
end
theorem zJu:prog.underlying 51=some (.slice (prog.elem 51)):=by kernel_rfl
theorem zGH (w:World):(sizeOf (prog.elem 51)).run prog w=.ok 1 w:=by kernel_rfl
@[go_sem high] theorem zER (w:World) (a:Option Addr) (n c:Nat) (i:Int) (h0:0<=i) (h1:i<=n) :
  (Instr.slice 51 (.slice a n c) (some (.int .i64 i)) none none).run prog w=.ok (.slice (subA a i.toNat c) (n-i.toNat) (c-i.toNat)) w:=by
 rw[run_slice_l w 51 a n c zJu .i64 i h0 h1,zGH];simp only[Result.andThen,sliced,Nat.mul_one,subA]
@[go_sem high] theorem zLf (w:World) (a:Option Addr) (n c:Nat) :
  (Instr.slice 51 (.slice a (n+2) c) (some (.int .i64 2)) none none).run prog w=.ok (.slice (subA a 2 c) n (c-2)) w:=by
 rw[zER w a (n+2) c 2 (by decide) (by omega)];rfl
@[go_sem high] theorem zLg (w:World) (a:Option Addr) (n c:Nat) :
  (Instr.slice 51 (.slice a (n+1) c) (some (.int .i64 1)) none none).run prog w=.ok (.slice (subA a 1 c) n (c-1)) w:=by
 rw[zER w a (n+1) c 1 (by decide) (by omega)];rfl
@[go_sem high] theorem zMI (w:World) (a:Option Addr) (n c:Nat) (i:Int) (h0:0<=i) (h1:i<=c) :
  (Instr.slice 51 (.slice a n c) none (some (.int .i64 i)) none).run prog w=.ok (.slice a i.toNat c) w:=by
 have hadd:∀ x:Addr,x.add 0=x:=fun x=>by unfold Addr.add;split <;> simp_all
 rw[run_slice_h w 51 a n c zJu .i64 i h0 h1,zGH];simp only[Result.andThen,sliced,Nat.mul_one,Nat.sub_zero]
 congr 2
 split
 ·rfl
 ·cases a <;> simp[hadd]
def seg (l:List Nat) (i j:Nat):List Nat:=(l.drop i).take (j-i)
theorem zCi (s:ByteArray) (i j:Nat):s.extract i j=strOf (seg (strL s) i j):=by
 apply zEd;have hl:∀ x∈seg (strL s) i j,x<256:=fun x hx=>strL_lt s x (List.mem_of_mem_drop (List.mem_of_mem_take hx))
 rw[zAw hl];unfold strL seg;rw[ByteArray.data_extract,Array.toList_extract,List.extract_eq_take_drop,List.map_take,List.map_drop]
theorem zGK (l:List Nat) (i:Nat):seg l i i=[]:=by simp[seg]
theorem zJ0 (l:List Nat) (i k:Nat) (h:i<=k) (hk:k<l.length):seg l i (k+1)=seg l i k++[l.getD k 0]:=by
 unfold seg;rw[show k+1-i=(k-i)+1 by omega,List.take_add_one,List.getElem?_drop,show i+(k-i)=k by omega,List.getElem?_eq_getElem hk];simp[List.getD_eq_getElem?_getD,hk]
theorem zLe (l:List Nat) (i:Nat):seg l i l.length=l.drop i:=by
 unfold seg;exact List.take_of_length_le (by rw[List.length_drop];omega)
def zA4 (ps:List (List Nat)):List Value:=ps.map fun p=>Value.string (strOf p)
theorem zHW (l:List (List Nat)):(zA4 l).length=l.length:=by simp[zA4]
theorem zCA (a b:List (List Nat)):zA4 (a++b)=zA4 a++zA4 b:=by simp[zA4]
theorem zJA (l:List (List Nat)) (j:Nat) (h:j<l.length):(zA4 l)[j]?=some (.string (strOf (l.getD j []))):=by simp[zA4,h]
structure FrS (w w':World) (v:Value) (l:List (List Nat)):Prop where
 grown:w.grownBy w' none
 own:w'.ownsRow w.heap.size 9 1 v l.length (zA4 l)
theorem FrS.alloc {w w':World} {v:Value} {l:List (List Nat)} (h:FrS w w' v l) (o:Obj):FrS w (w'.alloc o) v l:=⟨zAc h.grown o,h.own.alloc o⟩
theorem FrS.step {w b c:World} {v v':Value} {l l':List (List Nat)} {n':Nat} {xs:List Value} (h:FrS w b v l) (ho:c.ownsRow w.heap.size 9 1 v' n' xs) (hg:b.grownBy c v.ownBlock) (e:xs=zA4 l'):FrS w c v' l':=by
 subst e;have hn:n'=l'.length:=by have:=ho.1;rw[zHW]at this;omega
 subst hn;exact⟨zAR h.grown h.own (Nat.le_refl _) hg,ho⟩
theorem FrS.le {w w':World} {v:Value} {l:List (List Nat)} (h:FrS w w' v l):w.heap.size<=w'.heap.size:=h.grown.size
@[go_sem high] theorem zMF (w:World) (a:Option Addr) (n c l h:Nat) (h1:l<=h) (h2:h<=c) :
  (Instr.slice 33 (.slice a n c) (some (.int .i64 (l:Int))) (some (.int .i64 (h:Int))) none).run prog w=.ok (.slice (subA a l c) (h-l) (c-l)) w:=by
 rw[run_slice_lh w 33 a n c zFq .i64 .i64 (l:Int) (h:Int) (by omega) (by omega) (by omega),zGG];simp only[Result.andThen,sliced,Nat.mul_one,subA,Int.toNat_natCast]
def lenV:Value->Nat
 |.slice _ n _=>n
 |_=>0
theorem zM1 (k n j:Nat) (h:j<k):(Wh.be k n).getD j 0=n/256 ^ (k-1-j)%256:=by
 induction k generalizing j with
 |zero=>omega
 |succ k ih =>
  match j with
  |0=>simp[Wh.be]
  |j+1 =>
   rw[Wh.be,List.getD_cons_succ,ih j (by omega)]
   congr 3
   omega
theorem zFA (k n j:Nat) (h:j<k):(Wh.be k n).take (j+1)=(Wh.be k n).take j++[n/256 ^ (k-1-j)%256]:=by
 have hl:j<(Wh.be k n).length:=by rw[Wh.be_len];exact h
 rw[List.take_add_one,List.getElem?_eq_getElem hl,<-zM1 k n j h,List.getD_eq_getElem?_getD,List.getElem?_eq_getElem hl];rfl
theorem zLY (U m:Nat):((U:Int)/2 ^ (8*m)%256)=((U/256 ^ m%256:Nat):Int):=by
 have e:((2:Int) ^ (8*m))=((256 ^ m:Nat):Int):=by
  rw[show(256:Nat)=2 ^ 8 from rfl,<-Nat.pow_mul];simp
 rw[e,Int.natCast_emod,Int.natCast_ediv];rfl
theorem zDq (n:Int) (w:World) :
  Calls prog 94 #[.int .i64 n] w fun e w'=>∃ v,e=.returned v/\w.grownBy w' none/\Bytes w' v (Wh.body n)/\Whole0 v:=by
 have hu:IntKind.u64.wrap n=((Wh.u64 n:Nat):Int):=by
  simp only[IntKind.wrap,IntKind.bits,IntKind.signed,Wh.u64];simp;omega
 have hU:Wh.u64 n<18446744073709551616:=by unfold Wh.u64;omega
 obtain⟨L,hL⟩:∃ L,L=Wh.be 8 (Wh.u64 n):=⟨_,rfl⟩
 have HL:=hid hL;have hbody:Wh.body n=Wh.strip L:=by rw[hL];rfl
 rw[hbody];have HA:=hid (fun k hk=>zFA 8 (Wh.u64 n) k hk);rw[<-hL]at HA;generalize Wh.u64 n=U at *;clear hL hbody;have R0:Hid ((w.alloc (.cells #[] 5)).ownsRow w.heap.size 5 1 (.slice (some ⟨w.heap.size,0,none⟩) 0 0) 0 (cellsL (L.take 0))):=hid (ownsRow_lit (alloc_at w _) (Nat.le_refl _) (by simp));have G0:=hid (World.grownBy_alloc w (.cells #[] 5) none);go_enter func94,ntmps94
 go_wp2
 go_loopw [3,5] (fun b i wr=>∃ k:Nat,k<=8/\i=.int .i64 (7-(k:Int))/\wr.ownsRow w.heap.size 5 1 b k (cellsL (L.take k))/\w.grownBy wr none) (fun _ i _=>(intOf i+1).toNat)
 case atStart=>exact⟨0,by omega,rfl,R0.out,G0.out⟩
 case round =>
  obtain⟨k,hk,rfl,ho,hg⟩:=hrel;have HO:=hid ho;have HG:=hid hg;clear ho hg;by_cases hk8:k<8
  ·go_wp2_with (at_builtin;refine zAy (by rfl) (.tmp 13) (.tmp 20) 33 (by rfl) w.heap.size 5 (.int .u8 0) 1 underlying33 (by kernel_rfl) rfl (by decide) _ _ _ (by rfl) (HO.out.alloc _) ⟨_,0,none⟩ _ (by rfl) (cell_blk (alloc_at _ _) 0 rfl) rfl (by omega) (by have:=HG.out.size;rw[zAe];omega) ?_;intro v' w3 ho3 hg3;have HO3:=hid ho3;have HG3:=hid (zAR (zAc HG.out _) (HO.out.alloc _) (Nat.le_refl _) hg3);clear ho3 hg3)
   go_roundw
   case rel =>
    refine⟨k+1,by omega,by go_num,?_,HG3.out⟩;have:=HO3.out;rw[zLY]at this;rw[HA.out k hk8,zAn];exact this
   case measure=>simp[intOf];omega
  ·obtain rfl:k=8:=by omega
   obtain⟨wo,rfl⟩:∃ wo:World,wo=wr:=⟨_,rfl⟩
   have hLl:L.length=8:=by rw[HL.out,Wh.be_len]
   have e8:L.take 8=L:=List.take_of_length_le (by omega);have hBy:=Bytes.own (by have:=HO.out;rw[e8]at this;exact this) (by rw[HL.out];exact Wh.be_lt U 8);have hW0:=Whole0.own HO.out;obtain⟨b0,hb0⟩:∃ b,b=L:=⟨_,rfl⟩
   have HLe:=hid hLl;clear hLl e8 hb0;go_wp2
   go_loopw [3] (fun b wr=>∃ (l:List Nat) (a:Option Addr) (m c:Nat),b=.slice a m c/\Bytes wr (.slice a m c) l/\Whole0 (.slice a m c)/\Wh.strip l=Wh.strip L/\l≠[]/\wr=wo) (fun b _=>lenV b)
   case atStart =>
    obtain⟨_,_,c,hf,_⟩:=zAl HO.out;exact⟨L,_,_,_,hf,by rw[<-hf];exact hBy,by rw[<-hf];exact hW0,rfl,(by intro e;have:=HLe.out;rw[e]at this;simp at this),rfl⟩
   case round =>
    obtain⟨l,a,m,c,rfl,hB,hW,hst,hne,rfl⟩:=hrel;have HBy:=hid hB;have HW0:=hid hW;have Hst:=hid hst;obtain⟨hlt,_,sb,so,_,e,hc,ha,hcell⟩:=hB;cases e
    match l,hne with
    |[x],_ =>
     have SSS:Wh.strip [x]=[x]:=rfl;clear hlt ha hcell hW hst hBy hW0;go_wp2
     go_ret
     exact⟨_,rfl,HG.out,by rw[<-Hst.out,SSS];exact HBy.out,HW0.out⟩
    |x :: y :: r,_ =>
     obtain⟨rfl,ha2⟩:=ha (by simp);have c0:wr.cell? ⟨sb,so,none⟩=some (.int .u8 (x:Nat)):=hcell 0 (by simp);have c1:wr.cell? ⟨sb,so+1,none⟩=some (.int .u8 (y:Nat)):=hcell 1 (by simp);have hx:=hlt x (by simp);have hy:=hlt y (by simp);clear ha hcell hW hst hBy hW0 hlt;by_cases hN:Wh.needless (x :: y :: r)=true
     ·have SSS:Wh.strip (x :: y :: r)=Wh.strip (y :: r):=by rw[Wh.strip,if_pos hN]
      simp only[Wh.needless,Bool.or_eq_true,Bool.and_eq_true,decide_eq_true_eq]at hN;rcases hN with⟨rfl,h2⟩|⟨rfl,h2⟩
      ·go_wp2
       go_roundw
       case rel =>
        first
         |exact⟨y :: r,_,_,_,⟨rfl,rfl,rfl⟩,(HBy.out.from 1 (by simp)),(HW0.out.from 1),by rw[<-Hst.out,SSS],by simp⟩
         |((repeat apply Exists.intro);refine⟨⟨y :: r,subA (some ⟨sb,so,none⟩) 1 c,r.length+1,c-1,rfl,HBy.out.from 1 (by simp),HW0.out.from 1,by rw[<-Hst.out,SSS],by simp⟩,?_⟩;and_intros <;> rfl)
       case measure=>simp[lenV]
      ·go_wp2
       go_roundw
       case rel =>
        first
         |exact⟨y :: r,_,_,_,⟨rfl,rfl,rfl⟩,(HBy.out.from 1 (by simp)),(HW0.out.from 1),by rw[<-Hst.out,SSS],by simp⟩
         |((repeat apply Exists.intro);refine⟨⟨y :: r,subA (some ⟨sb,so,none⟩) 1 c,r.length+1,c-1,rfl,HBy.out.from 1 (by simp),HW0.out.from 1,by rw[<-Hst.out,SSS],by simp⟩,?_⟩;and_intros <;> rfl)
       case measure=>simp[lenV]
     ·have SSS:Wh.strip (x :: y :: r)=x :: y :: r:=by rw[Wh.strip,if_neg hN]
      simp only[Wh.needless,Bool.or_eq_true,Bool.and_eq_true,decide_eq_true_eq]at hN;have hcase:(x=0/\128<=y)∨(x=255/\y<=127)∨(x≠0/\x≠255):=by omega
      clear hN;rcases hcase with⟨rfl,h2⟩|⟨rfl,h2⟩|⟨h2,h3⟩
      ·go_wp2
       go_ret
       exact⟨_,rfl,HG.out,by rw[<-Hst.out,SSS];exact HBy.out,HW0.out⟩
      ·go_wp2
       go_ret
       exact⟨_,rfl,HG.out,by rw[<-Hst.out,SSS];exact HBy.out,HW0.out⟩
      ·go_wp2
       go_ret
       exact⟨_,rfl,HG.out,by rw[<-Hst.out,SSS];exact HBy.out,HW0.out⟩
theorem zEY (s:ByteArray) (w:World) (hs:s.size<=1099511620000) :
  Calls prog 132 #[.string s] w fun e w'=>∃ v,e=.returned v/\FrS w w' v (Od.split (strL s)):=by
 obtain⟨L,hL⟩:∃ L,L=strL s:=⟨_,rfl⟩
 obtain⟨n,hn⟩:∃ n,n=s.size:=⟨_,rfl⟩
 have hLn:L.length=n:=by rw[hL,zAx,hn]
 have HIx:Hid (∀ j:Nat,j<n->∀ W,(Instr.index 9 (.string s) (.int .i64 (j:Int))).run prog W=.ok (.int .u8 (L.getD j 0:Nat)) W):=hid (fun j hj W=>by
  have hjs:j<s.size:=by omega
  have h2:(0:Int)<=(j:Int)/\(j:Int)<(s.size:Int):=⟨by omega,by omega⟩;have e:=zCo s j hjs;rw[<-hL]at e;rw[run_index_string W _ s .i64 j underlying9,dif_pos h2,<-e];rfl)
 have HEx:Hid (∀ i j,s.extract i j=strOf (seg L i j)):=hid (fun i j=>by rw[hL];exact zCi s i j);have hsz:((s.size:Nat):Int)=n:=by rw[hn]
 have HN:=hid hn;have HLn:=hid hLn;rw[<-hL];have HSp0:Hid (Od.split L=[]++Od.splitA (seg L 0 0) (L.drop 0)):=hid (by rw[zGK];rfl);have HStep:Hid (∀ k last,last<=k->k<n->Od.splitA (seg L last k) (L.drop k)=if L.getD k 0=46 then seg L last k :: Od.splitA (seg L (k+1) (k+1)) (L.drop (k+1))else Od.splitA (seg L last (k+1)) (L.drop (k+1))):=hid (fun k last h1 h2=>by
  have hk:k<L.length:=by omega
  rw[List.drop_eq_getElem_cons hk,Od.splitA,zGK,zJ0 L last k h1 hk];have:L.getD k 0=L[k]:=by rw[List.getD_eq_getElem?_getD,List.getElem?_eq_getElem hk];rfl
  rw[this])
 have HEnd:Hid (∀ last,Od.splitA (seg L last n) (L.drop n)=[seg L last n]):=hid (fun last=>by
  rw[List.drop_eq_nil_of_le (by omega),Od.splitA])
 have F0:Hid (FrS w (w.alloc (.cells #[] 9)) (.slice (some ⟨w.heap.size,0,none⟩) 0 0) []):=hid ⟨World.grownBy_alloc _ _ _,ownsRow_lit (alloc_at w _) (Nat.le_refl _) (by simp)⟩;generalize Od.split L=SP at *;have hn40:n<=1099511620000:=by omega
 clear hLn hn hL hs;go_enter func132,ntmps132
 go_wp2
 go_loopw [3,4,5] (fun out last i wr=>∃ (k la:Nat) (ps:List (List Nat)),k<=n/\la<=k/\ps.length<=k/\last=.int .i64 la/\i=.int .i64 k/\FrS w wr out ps/\SP=ps++Od.splitA (seg L la k) (L.drop k)) (fun _ _ i _=>n-(intOf i).toNat)
 case atStart=>exact⟨0,0,[],by omega,by omega,by simp,rfl,rfl,F0.out,HSp0.out⟩
 case round =>
  obtain⟨k,la,ps,hk,hla,hps,rfl,rfl,hF,hSP⟩:=hrel;have HF:=hid hF;have HS:=hid hSP;clear hF hSP;by_cases hkn:k<n
  ·have hix:=HIx.out k hkn;have hst:=HStep.out k la hla hkn;have HSt:=hid hst;clear hst;generalize L.getD k 0=c at *;by_cases hc:c=46
   ·subst hc;have HSt2:Hid (Od.splitA (seg L la k) (L.drop k)=seg L la k :: Od.splitA (seg L (k+1) (k+1)) (L.drop (k+1))):=hid (by rw[HSt.out,if_pos rfl]);go_wp2_with (at_builtin;refine zAy (by rfl) (.tmp 17) (.tmp 22) 141 (by rfl) w.heap.size 9 (.string ⟨#[]⟩) 16 underlying141 (by kernel_rfl) rfl (by decide) _ ps.length (zA4 ps) (by rfl) (HF.out.own.alloc _) ⟨_,0,none⟩ (.string (s.extract la k)) (by rfl) (cell_blk (alloc_at _ _) 0 rfl) rfl (by omega) (by have:=HF.out.le;rw[zAe];omega) ?_;intro v' w3 ho3 hg3;have F3:=hid ((HF.out.alloc _).step (l':=ps++[seg L la k]) ho3 hg3 (by rw[HEx.out,zCA];rfl));clear ho3 hg3)
    go_roundw
    case rel=>exact⟨k+1,k+1,ps++[seg L la k],by omega,by omega,by rw[List.length_append];simp;omega,by go_num,by go_num,F3.out,by rw[HS.out,HSt2.out,List.append_assoc];rfl⟩
    case measure=>simp[intOf];omega
   ·have HSt2:Hid (Od.splitA (seg L la k) (L.drop k)=Od.splitA (seg L la (k+1)) (L.drop (k+1))):=hid (by rw[HSt.out,if_neg hc]);have hcb:((c:Int)==46)=false:=by simp;omega
    go_wp2
    go_roundw
    case rel=>exact⟨k+1,la,ps,by omega,by omega,by omega,rfl,by go_num,HF.out,by rw[HS.out,HSt2.out]⟩
    case measure=>simp[intOf];omega
  ·obtain rfl:k=n:=by omega
   have HEs:Hid (s.extract la s.size=strOf (seg L la k)):=hid (by rw[HEx.out,HN.out]);go_wp2_with (at_builtin;refine zAy (by rfl) (.tmp 26) (.tmp 30) 141 (by rfl) w.heap.size 9 (.string ⟨#[]⟩) 16 underlying141 (by kernel_rfl) rfl (by decide) _ ps.length (zA4 ps) (by rfl) (HF.out.own.alloc _) ⟨_,0,none⟩ (.string (s.extract la s.size)) (by rfl) (cell_blk (alloc_at _ _) 0 rfl) rfl (by omega) (by have:=HF.out.le;rw[zAe];omega) ?_;intro v' w3 ho3 hg3;have F3:=hid ((HF.out.alloc _).step (l':=ps++[seg L la k]) ho3 hg3 (by rw[HEs.out,zCA];rfl));clear ho3 hg3)
   go_ret
   exact⟨_,rfl,by rw[HS.out,HEnd.out];exact F3.out⟩
theorem zDp {a b:Bool} (h:a=b):Ending.returned (.bool a)=.returned (.bool b):=by rw[h]
theorem zBw (v:Value) (l:List Int) (w:World) (hB:Ints w v l) :
  Calls prog 134 #[v] w fun e w'=>e=.returned (.bool (Od.right l))/\w'=w:=by
 obtain⟨a,sb,so,c,rfl,hc,ha,hcell⟩:=hB;obtain⟨n,hn⟩:∃ n,n=l.length:=⟨_,rfl⟩
 have hiff:=Od.right_iff l;have hall:(∀ z∈l,0<=z/\z<=2147483647)↔∀ j,j<n->0<=l.getD j 0/\l.getD j 0<=2147483647:=by
  rw[hn];constructor
  ·intro h j hj;have:=h l[j] (List.getElem_mem hj);rw[List.getD_eq_getElem?_getD,List.getElem?_eq_getElem hj];exact this
  ·intro h z hz;obtain⟨j,hj,rfl⟩:=List.mem_iff_getElem.1 hz;have:=h j hj;rw[List.getD_eq_getElem?_getD,List.getElem?_eq_getElem hj]at this;exact this
 rw[hall]at hiff;rw[<-hn]at hc ha hcell hiff ⊢;have HF:Hid (¬((2<=n/\n<=16/\0<=l.getD 0 0/\l.getD 0 0<=2/\(2<=l.getD 0 0∨l.getD 1 0<=39))/\∀ j,j<n->0<=l.getD j 0/\l.getD j 0<=2147483647)->Od.right l=false):=hid (fun h=>by
  rw[<-hiff]at h;simpa using h)
 have HT:=hid hiff.2;clear hiff hall hn;by_cases hlen:2<=n/\n<=16
 ·obtain⟨h2,h16⟩:=hlen;obtain⟨rfl,_⟩:=ha (by omega);have c0:=hcell 0 (by omega);have c1:=hcell 1 (by omega);rw[Nat.add_zero]at c0;have HC:=hid hcell;clear hcell ha;generalize Od.right l=D at *;generalize hx:l.getD 0 0=x at *;generalize hy:l.getD 1 0=y at *;clear hx hy;by_cases hx0:x<0
  ·have hD:=HF.out (fun h=>by have:=h.1.2.2.1;omega);clear HF HT;go_enter func134,ntmps134
   go_wp2
   go_ret
   exact⟨zDp (by simp[hD]),rfl⟩
  by_cases hx2:2<x
  ·have hD:=HF.out (fun h=>by have:=h.1.2.2.2.1;omega);clear HF HT;go_enter func134,ntmps134
   go_wp2
   go_ret
   exact⟨zDp (by simp),rfl⟩
  by_cases hx3:x<2/\39<y
  ·obtain⟨hx3,hy3⟩:=hx3;have hD:=HF.out (fun h=>by have:=h.1.2.2.2.2;omega);clear HF HT;go_enter func134,ntmps134
   go_wp2
   go_ret
   exact⟨zDp (by simp),rfl⟩
  have HF2:Hid (∀ j,j<n->¬(0<=l.getD j 0/\l.getD j 0<=2147483647)->D=false):=hid (fun j hj h=>HF.out (fun k=>h (k.2 j hj)));have HT2:Hid ((∀ j,j<n->0<=l.getD j 0/\l.getD j 0<=2147483647)->D=true):=hid (fun h=>HT.out ⟨⟨h2,h16,by omega,by omega,by omega⟩,h⟩);clear HF HT;have hcase:2<=x∨(x<2/\y<=39):=by omega
  clear hx3;rcases hcase with hcase|⟨hca,hcb⟩
  ·go_enter func134,ntmps134
   go_wp2
   go_loopw [39] (fun i wr=>∃ k:Nat,k<=n/\i=.int .i64 k/\wr=w/\∀ j,j<k->0<=l.getD j 0/\l.getD j 0<=2147483647) (fun i _=>n-(intOf i).toNat)
   case atStart=>exact⟨0,by omega,rfl,rfl,fun j hj=>absurd hj (Nat.not_lt_zero _)⟩
   case round =>
    obtain⟨k,hk,rfl,rfl,hA⟩:=hrel;have HA:=hid hA;clear hA;by_cases hkn:k<n
    ·have hck:=HC.out k hkn;have HNx:=hid (HF2.out k hkn);generalize hz:l.getD k 0=z at *;have HZ:=hid hz;clear hz;by_cases hz0:z<0
     ·have hD:=HNx.out (by omega);go_wp2
      go_ret
      exact⟨zDp (by simp[hD]),rfl⟩
     ·by_cases hz1:2147483647<z
      ·have hD:=HNx.out (by omega);go_wp2
       go_ret
       exact⟨zDp (by simp),rfl⟩
      ·have HZ2:Hid (0<=z/\z<=2147483647):=hid (by omega);go_wp2
       go_roundw
       case rel=>exact⟨k+1,by omega,by go_num,trivial,fun j hj=>(by
        rcases Nat.lt_or_ge j k with h|h
        ·exact HA.out j h
        ·obtain rfl:j=k:=by omega
         rw[HZ.out];exact HZ2.out)⟩
       case measure=>simp[intOf];omega
    ·obtain rfl:k=n:=by omega
     have hD:=HT2.out HA.out;go_wp2
     go_ret
     exact⟨zDp (by simp[hD]),rfl⟩
  ·go_enter func134,ntmps134
   go_wp2
   go_loopw [39] (fun i wr=>∃ k:Nat,k<=n/\i=.int .i64 k/\wr=w/\∀ j,j<k->0<=l.getD j 0/\l.getD j 0<=2147483647) (fun i _=>n-(intOf i).toNat)
   case atStart=>exact⟨0,by omega,rfl,rfl,fun j hj=>absurd hj (Nat.not_lt_zero _)⟩
   case round =>
    obtain⟨k,hk,rfl,rfl,hA⟩:=hrel;have HA:=hid hA;clear hA;by_cases hkn:k<n
    ·have hck:=HC.out k hkn;have HNx:=hid (HF2.out k hkn);generalize hz:l.getD k 0=z at *;have HZ:=hid hz;clear hz;by_cases hz0:z<0
     ·have hD:=HNx.out (by omega);go_wp2
      go_ret
      exact⟨zDp (by simp[hD]),rfl⟩
     ·by_cases hz1:2147483647<z
      ·have hD:=HNx.out (by omega);go_wp2
       go_ret
       exact⟨zDp (by simp),rfl⟩
      ·have HZ2:Hid (0<=z/\z<=2147483647):=hid (by omega);go_wp2
       go_roundw
       case rel=>exact⟨k+1,by omega,by go_num,trivial,fun j hj=>(by
        rcases Nat.lt_or_ge j k with h|h
        ·exact HA.out j h
        ·obtain rfl:j=k:=by omega
         rw[HZ.out];exact HZ2.out)⟩
       case measure=>simp[intOf];omega
    ·obtain rfl:k=n:=by omega
     have hD:=HT2.out HA.out;go_wp2
     go_ret
     exact⟨zDp (by simp[hD]),rfl⟩
 ·have hD:=HF.out (fun h=>hlen ⟨h.1.1,h.1.2.1⟩);clear hcell HF HT ha;by_cases h2:n<2
  ·go_enter func134,ntmps134
   go_wp2
   go_ret
   exact⟨zDp (by simp),rfl⟩
  ·have h16:16<n:=by omega
   clear hlen;go_enter func134,ntmps134
   go_wp2
   go_ret
   exact⟨zDp (by simp),rfl⟩
theorem zJ5 {a b:Bool} (h:a=b):Ending.returned (.bool a)=.returned (.bool b):=by rw[h]
theorem zDr (y:Int) (w:World):Calls prog 136 #[.int .i64 y] w fun e w'=>e=.returned (.bool (Cal.leapI y))/\w'=w:=by
 have HL:Hid (Cal.leapI y=(decide (y.tmod 400=0)||(decide (y.tmod 4=0)&&decide (y.tmod 100≠0)))):=hid (by
  unfold Cal.leapI;have e1:=Cal.tmod_zero y 400 (by decide);have e2:=Cal.tmod_zero y 4 (by decide);have e3:=Cal.tmod_zero y 100 (by decide);simp only[<-e1,<-e2,ne_eq,<-e3])
 generalize Cal.leapI y=R at *;generalize h1:y.tmod 400=a at *;generalize h2:y.tmod 4=b at *;generalize h3:y.tmod 100=c at *;by_cases ha:a=0
 ·subst ha;go_enter func136,ntmps136
  go_wp2
  go_ret
  exact⟨zJ5 (by rw[HL.out];simp),rfl⟩
 ·have ha':(a==0)=false:=beq_eq_false_iff_ne.2 ha;by_cases hb:b=0
  ·subst hb;by_cases hc:c=0
   ·subst hc;go_enter func136,ntmps136
    go_wp2
    go_ret
    exact⟨zJ5 (by rw[HL.out];simp[ha]),rfl⟩
   ·have hc':(c != 0)=true:=by rw[bne,beq_eq_false_iff_ne.2 hc];rfl
    go_enter func136,ntmps136
    go_wp2
    go_ret
    exact⟨zJ5 (by rw[HL.out];simp[hc]),rfl⟩
  ·have hb':(b==0)=false:=beq_eq_false_iff_ne.2 hb;go_enter func136,ntmps136
   go_wp2
   go_ret
   exact⟨zJ5 (by rw[HL.out];simp[ha,hb]),rfl⟩
def monthsL:List Int:=[31,28,31,30,31,30,31,31,30,31,30,31]
theorem zI9 {y:Int} (m:Nat) (h1:m<12) (h2:(m:Int)+1≠2∨Cal.leapI y=false):monthsL.getD m 0=(Cal.daysI y ((m:Int)+1):Nat):=by
 match m,h1 with
 |0,_=>rfl
 |1,_ =>
  rcases h2 with h|h
  ·exact absurd rfl h
  ·simp[Cal.daysI,h,monthsL]
 |2,_=>rfl
 |3,_=>rfl
 |4,_=>rfl
 |5,_=>rfl
 |6,_=>rfl
 |7,_=>rfl
 |8,_=>rfl
 |9,_=>rfl
 |10,_=>rfl
 |11,_=>rfl
theorem zF3 (y m:Int) (w:World):Calls prog 137 #[.int .i64 y,.int .i64 m] w fun e w'=>e=.returned (.int .i64 ((Cal.daysI y m:Nat):Int))/\w.grownBy w' none:=by
 have HL:=hid (zDr y);by_cases h1:m<1
 ·have HR:Hid (Cal.daysI y m=0):=hid (by rw[Cal.daysI,if_pos (.inl h1)]);rw[HR.out];go_enter func137,ntmps137
  go_wp2
  go_ret
  exact⟨rfl,zAa _ _⟩
 ·by_cases h2:12<m
  ·have HR:Hid (Cal.daysI y m=0):=hid (by rw[Cal.daysI,if_pos (.inr h2)]);rw[HR.out];go_enter func137,ntmps137
   go_wp2
   go_ret
   exact⟨rfl,zAa _ _⟩
  ·obtain⟨k,hk⟩:∃ k:Nat,m=(k:Int)+1:=⟨(m-1).toNat,by omega⟩
   have hk12:k<12:=by omega
   have hcell:(w.alloc (.cells #[.int .i64 31,.int .i64 28,.int .i64 31,.int .i64 30,.int .i64 31,.int .i64 30,.int .i64 31,.int .i64 31,.int .i64 30,.int .i64 31,.int .i64 30,.int .i64 31] 3)).cell? ⟨w.heap.size,k,none⟩=some (.int .i64 (monthsL.getD k 0)):=by
    have:=cell_blk (alloc_at w (.cells (cellsI monthsL).toArray 3)) k (by simpa using zCD monthsL k hk12);exact this
   by_cases hm2:m=2
   ·by_cases hl:Cal.leapI y=true
    ·have HR:Hid (Cal.daysI y m=29):=hid (by rw[Cal.daysI,if_neg (by omega),if_pos hm2,if_pos hl]);rw[HR.out];rw[hl]at HL;clear HR hk hl;subst hm2;go_enter func137,ntmps137
     go_wp2_with (go_at_call 136;refine(HL.out _).mono ?_;rintro e w1 ⟨rfl,rfl⟩)
     go_ret
     exact⟨rfl,World.grownBy_alloc _ _ _⟩
    ·have hlf:Cal.leapI y=false:=by rw[<-Bool.not_eq_true];exact hl
     have HLf:Hid (∀ W,Calls prog 136 #[.int .i64 y] W fun e w'=>e=.returned (.bool false)/\w'=W):=hid (fun W=>by have:=HL.out W;rw[hlf]at this;exact this);have HR:Hid (Cal.daysI y m=28):=hid (by rw[Cal.daysI,if_neg (by omega),if_pos hm2,if_neg hl]);rw[HR.out];clear hk hl hlf HL HR hcell hk12;subst hm2;go_enter func137,ntmps137
     go_wp2_with (go_at_call 136;refine(HLf.out _).mono ?_;rintro e w1 ⟨rfl,rfl⟩)
     go_ret
     exact⟨rfl,World.grownBy_alloc _ _ _⟩
   ·have hM:=zI9 (y:=y) k hk12 (.inl (by omega));rw[hM,<-hk]at hcell;generalize Cal.daysI y m=R at *;subst hk;have hb:((k:Int)+1==2)=false:=beq_eq_false_iff_ne.2 hm2;clear hM hm2;go_enter func137,ntmps137
    go_wp2_with (go_at_call 136;refine(HL.out _).mono ?_;rintro e w1 ⟨rfl,rfl⟩)
    go_ret
    exact⟨rfl,World.grownBy_alloc _ _ _⟩
namespace Bc
def cmp (a b:List Nat):Int:=Extern.BytealgCompare.cmp (strOf a) (strOf b)
theorem strOf_at (l:List Nat) (i:Nat) (h:i<l.length):(strOf l)[i]! = UInt8.ofNat (l.getD i 0):=by
 have hs:i<(strOf l).size:=by rw[zAE];exact h
 rw[getElem!_pos (strOf l) i hs,List.getD_eq_getElem?_getD,List.getElem?_eq_getElem h]
 show((l.map UInt8.ofNat).toArray)[i]'(by simpa using h)=_
 rw[List.getElem_toArray,List.getElem_map];rfl
theorem ne_at {x y:Nat} (hx:x<256) (hy:y<256):(UInt8.ofNat x != UInt8.ofNat y)=decide (x≠y):=by
 rw[Bool.eq_iff_iff];simp only[bne_iff_ne,ne_eq,decide_eq_true_eq];refine not_congr ⟨fun h=>?_,fun h=>by rw[h]⟩;have:=congrArg UInt8.toNat h;rw[UInt8.toNat_ofNat',UInt8.toNat_ofNat',Nat.mod_eq_of_lt hx,Nat.mod_eq_of_lt hy]at this;exact this
theorem lt_at {x y:Nat} (hx:x<256) (hy:y<256):(UInt8.ofNat x<UInt8.ofNat y)↔x<y:=by
 rw[UInt8.lt_iff_toNat_lt,UInt8.toNat_ofNat',UInt8.toNat_ofNat',Nat.mod_eq_of_lt hx,Nat.mod_eq_of_lt hy]
theorem lex_at:∀ (a b:List Nat) (i:Nat),(∀ j,j<i->a.getD j 0=b.getD j 0)->i<=a.length->i<=b.length ->
  (i<a.length->i<b.length->a.getD i 0≠b.getD i 0->Cal.lex a b=decide (a.getD i 0<b.getD i 0)) /\
  (i=a.length∨i=b.length->Cal.lex a b=decide (a.length<b.length))
 |[],[],i,_,ha,_=>⟨fun h=>absurd h (by simp),fun _=>by simp[Cal.lex]⟩
 |[],y :: s,i,_,ha,_=>⟨fun h=>absurd h (by simp),fun _=>by simp[Cal.lex]⟩
 |x :: r,[],i,_,_,hb=>⟨fun _ h=>absurd h (by simp),fun _=>by simp[Cal.lex]⟩
 |x :: r,y :: s,0,_,_,_=>⟨fun _ _ h=>by
   simp only[List.getD_cons_zero]at h ⊢;rw[Cal.lex,if_neg h],fun h=>by simp at h⟩
 |x :: r,y :: s,i+1,hj,ha,hb=>by
  have e:x=y:=by simpa using hj 0 (by omega)
  subst e;have ih:=lex_at r s i (fun j h=>by simpa using hj (j+1) (by omega)) (by simpa using ha) (by simpa using hb);simp only[List.getD_cons_succ,List.length_cons]at ih ⊢;rw[Cal.lex,if_pos rfl];refine⟨fun h1 h2 h3=>ih.1 (by omega) (by omega) h3,fun h=>?_⟩;rw[ih.2 (by omega)];simp
theorem cmp_lex {a b:List Nat} (ha:∀ x∈a,x<256) (hb:∀ x∈b,x<256):decide (cmp a b<0)=Cal.lex a b:=by
 have ga:∀ i,a.getD i 0<256:=fun i=>by
  rw[List.getD_eq_getElem?_getD];cases h:a[i]? with
  |none=>exact Nat.zero_lt_succ _
  |some x=>exact ha x (List.mem_of_getElem? h)
 have gb:∀ i,b.getD i 0<256:=fun i=>by
  rw[List.getD_eq_getElem?_getD];cases h:b[i]? with
  |none=>exact Nat.zero_lt_succ _
  |some x=>exact hb x (List.mem_of_getElem? h)
 unfold cmp Extern.BytealgCompare.cmp;rw[zAE,zAE];have pe:∀ i,i<min a.length b.length->((strOf a)[i]! !=(strOf b)[i]!)=decide (a.getD i 0≠b.getD i 0):=fun i h=>by
  rw[strOf_at a i (by omega),strOf_at b i (by omega),ne_at (ga i) (gb i)]
 cases hf:(List.range (min a.length b.length)).find? fun i=>(strOf a)[i]! !=(strOf b)[i]! with
 |none =>
  rw[List.find?_range_eq_none]at hf;have hj:∀ j,j<min a.length b.length->a.getD j 0=b.getD j 0:=fun j h=>by
   have:=hf j h;rw[pe j h]at this;simpa using this
  have hl:=(lex_at a b (min a.length b.length) hj (by omega) (by omega)).2 (by omega);rw[hl]
  show decide ((if a.length<b.length then(-1:Int)else if a.length > b.length then 1 else 0)<0)=_
  by_cases h1:a.length<b.length
  ·rw[if_pos h1];simp[h1]
  ·rw[if_neg h1];split <;> simp[h1]
 |some i =>
  rw[List.find?_range_eq_some]at hf;obtain⟨h1,h2,h3⟩:=hf;have hi:i<min a.length b.length:=List.mem_range.1 h2;rw[pe i hi]at h1;have hj:∀ j,j<i->a.getD j 0=b.getD j 0:=fun j h=>by
   have:=h3 j h;rw[pe j (by omega)]at this;simpa using this
  have hl:=(lex_at a b i hj (by omega) (by omega)).1 (by omega) (by omega) (by simpa using h1);rw[hl]
  show decide ((if(strOf a)[i]!<(strOf b)[i]! then(-1:Int)else 1)<0)=_
  rw[strOf_at a i (by omega),strOf_at b i (by omega)];by_cases h:a.getD i 0<b.getD i 0
  ·rw[if_pos ((lt_at (ga i) (gb i)).2 h)];simp only[h];decide
  ·rw[if_neg (fun h2=>h ((lt_at (ga i) (gb i)).1 h2))];simp only[h];decide
end Bc
theorem zDK {P:Program} {w:World} {sb:Nat} (l:List Nat):∀ (so:Nat) (acc:List Nat),(∀ j,j<l.length->w.cell? ⟨sb,so+j,none⟩=some (.int .u8 (l.getD j 0:Nat)))->(∀ x∈l,x<256) ->
  (Extern.Bytes.loadBytes ⟨sb,so,none⟩ l.length (strOf acc)).run P w=.ok (strOf (acc++l)) w:=by
 induction l with
 |nil=>intro so acc _ _;rw[List.append_nil];rfl
 |cons x r ih =>
  intro so acc h hlt;have hx:=hlt x (by simp);have h0:=h 0 (by simp);simp only[List.getD_cons_zero,Nat.add_zero]at h0;rw[List.length_cons,Extern.Bytes.loadBytes];simp only[Sem.run_bind,run_load,h0,Result.andThen];rw[addr_addO];have e:(strOf acc).push (x:Int).toNat.toUInt8=strOf (acc++[x]):=by
   rw[Int.toNat_natCast];simp[strOf,ByteArray.push]
  rw[e];have:=ih (so+1) (acc++[x]) (fun j hj=>by have:=h (j+1) (by simp;omega);rw[Nat.add_assoc,Nat.add_comm 1 j,this];simp) (fun y hy=>hlt y (by simp[hy]));rw[this,List.append_assoc];rfl
theorem zCU {P:Program} {w:World} {v:Value} {l:List Nat} (hB:Bytes w v l) (h0:Whole0 v):(Extern.Bytes.bytesOf v).run P w=.ok (strOf l) w:=by
 obtain⟨hlt,a,sb,so,c,rfl,hc,ha,hcell⟩:=hB
 match a with
 |none =>
  obtain⟨hn,_⟩:=h0 _ _ rfl;obtain rfl:=List.eq_nil_of_length_eq_zero hn;rfl
 |some ad =>
  match l,ha,hcell,hlt,hc,h0 with
  |[],_,_,_,_,_=>rfl
  |x :: r,ha,hcell,hlt,_,_ =>
   obtain⟨e,_⟩:=ha (by simp);obtain rfl:=Option.some.inj e;have:=zDK (P:=P) (w:=w) (sb:=sb) (x :: r) so [] hcell hlt;rw[List.nil_append]at this;exact this
theorem zFu (v u:Value) (A B:List Nat) (w:World) (hA:Bytes w v A) (hB:Bytes w u B) (hv:Whole0 v) (hu:Whole0 u) :
  Calls prog 147 #[v,u] w fun e w'=>e=.returned (.int .i64 (Bc.cmp A B))/\w'=w:=by
 have h77:(callFunc 169 #[v,u]).run prog w=.ok (.value (.int .i64 (Bc.cmp A B))) w:=by
  rw[@run_callFunc_extern prog 169 _ Extern.BytealgCompare.compare func169 (by kernel_rfl) (by kernel_rfl) (by kernel_rfl) (by kernel_rfl)];have e:Extern.BytealgCompare.compare #[v,u]=(do pure (goInt (Extern.BytealgCompare.cmp (<-Extern.Bytes.bytesOf v) (<-Extern.Bytes.bytesOf u)))):=rfl;rw[e];simp only[Sem.run_bind,zCU hA hv,zCU hB hu,Result.andThen];rfl
 obtain⟨_,va,_,_,vc,rfl,_⟩:=hA;obtain⟨_,ua,_,_,uc,rfl,_⟩:=hB;generalize Bc.cmp A B=c at *;go_enter func147,ntmps147
 go_wp2
 go_ret
 exact⟨rfl,rfl⟩
namespace Pt
end Pt
theorem zDH:∀ (j x:Nat),x<18446744073709551616->(Lib.bitLen x<=j↔x<2 ^ j)
 |0,x,hx=>by
  rcases Nat.eq_zero_or_pos x with h|h
  ·subst h;rw[show Lib.bitLen 0=0 from by decide];simp
  ·rw[Lib.bitLen_half x (by omega) hx];simp;omega
 |j+1,x,hx=>by
  rcases Nat.eq_zero_or_pos x with h|h
  ·subst h;exact⟨fun _=>Nat.two_pow_pos _,fun _=>by rw[show Lib.bitLen 0=0 from by decide];omega⟩
  ·rw[Lib.bitLen_half x (by omega) hx,Nat.pow_succ];have:=zDH j (x/2) (by omega);omega
namespace Wh
def mag (n:Int):Nat:=if n<0 then(-n-1).toNat else n.toNat
theorem mag_lt {n:Int} {p:Nat} (h1 : -(128*p:Int)<=n) (h2:n<(128*p:Int)):mag n<128*p:=by
 unfold mag;split <;> omega
theorem mag_ge {n:Int} {p:Nat} (h:n < -(128*p:Int)∨(128*p:Int)<=n):128*p<=mag n:=by
 unfold mag;split <;> omega
theorem p256 (k:Nat):128*256 ^ k=2 ^ (8*k+7):=by
 rw[Nat.pow_add,show(2:Nat) ^ 7=128 from rfl,Nat.pow_mul,show(2:Nat) ^ 8=256 from rfl,Nat.mul_comm]
theorem bits_of (n:Int) (l:List Nat) (b:Nat) (hb:∀ j,b<=j↔mag n<2 ^ j) (hn:l≠[]) (hv:val l=n) (hlt:∀ x∈l,x<256) (hm:needless l=false):l.length=b/8+1:=by
 rcases l with _|⟨x,r⟩
 ·exact absurd rfl hn
 ·have hlo:=val_lo hlt;have hc:((256:Int) ^ r.length)=((256 ^ r.length:Nat):Int):=by simp
  rw[hv,hc]at hlo;have a1:=mag_lt hlo.1 hlo.2;rw[p256]at a1;have b1:=(hb (8*r.length+7)).2 a1;have b2:8*r.length<=b:=by
   rcases r with _|⟨y,s⟩
   ·simp
   ·have hhi:=val_hi hlt hm;have hc:((256:Int) ^ s.length)=((256 ^ s.length:Nat):Int):=by simp
    rw[hv,hc]at hhi;have a2:=mag_ge hhi;rw[p256]at a2;have b3:=hb (8*s.length+7);have b4:¬ b<=8*s.length+7:=fun h=>Nat.lt_irrefl _ (Nat.lt_of_lt_of_le (b3.1 h) a2)
    rw[List.length_cons];clear a1 b1 hlo hhi a2 b3;omega
  rw[List.length_cons];clear a1 hlo hb;omega
theorem body_bits (n:Int) (h1 : -9223372036854775808<=n) (h2:n<=9223372036854775807):(body n).length=Lib.bitLen (mag n)/8+1/\mag n<9223372036854775808:=by
 have hM:mag n<9223372036854775808:=by unfold mag;split <;> omega
 exact⟨bits_of n _ _ (fun j=>zDH j _ (by omega)) (body_ne n) (body_val n h1 h2) (body_lt n) (body_min n),hM⟩
end Wh
theorem zJQ (m:Nat) (hm:m<9223372036854775808):IntKind.u64.wrap (bits .xor .i64 (if IntKind.i64.signed=true then -1 else 9223372036854775807) (-(m:Int)-1))=m:=by
 have e:(if IntKind.i64.signed=true then(-1:Int)else 9223372036854775807)=-1:=rfl;have h:bits .xor .i64 (-1) (-(m:Int)-1)=m:=by
  show IntKind.i64.wrap ((BitVec.ofInt 64 (-1) ^^^ BitVec.ofInt 64 (-(m:Int)-1)).toNat:Int)=_
  have h1:BitVec.ofInt 64 (-1)=BitVec.allOnes 64:=rfl;have h2:BitVec.allOnes 64 ^^^ BitVec.ofInt 64 (-(m:Int)-1) = ~~~ BitVec.ofInt 64 (-(m:Int)-1):=BitVec.allOnes_xor;have h3:(BitVec.ofInt 64 (-(m:Int)-1)).toNat=18446744073709551615-m:=by
   rw[BitVec.toNat_ofInt];simp only[Nat.reducePow,Int.cast_ofNat_Int];omega
  rw[h1,h2,BitVec.toNat_not,h3];simp only[IntKind.wrap,IntKind.bits,IntKind.signed];simp;omega
 rw[e,h];simp only[IntKind.wrap,IntKind.bits,IntKind.signed];simp;omega
theorem zG9 (n:Int) (h1 : -9223372036854775808<=n) (h2:n<=9223372036854775807) (w:World) :
  Calls prog 108 #[.int .i64 n] w fun e w'=>e=.returned (.int .i64 (Wh.body n).length)/\w'=w:=by
 obtain⟨hl,hm⟩:=Wh.body_bits n h1 h2;have HL:=hid hl;obtain⟨m,hmn⟩:∃ m,m=Wh.mag n:=⟨_,rfl⟩
 rw[<-hmn]at HL hm;have hb64:Lib.bitLen m<=64:=(zDH 64 m (Nat.lt_trans hm (by decide))).2 (Nat.lt_trans hm (by decide));obtain⟨L,hL⟩:∃ L,L=(Wh.body n).length:=⟨_,rfl⟩
 rw[<-hL]at HL hl ⊢;clear hL;have hB:=fun w=>zGw (m:Int) w (by omega) (by clear hb64 hl HL;omega)
 rw[Int.toNat_natCast]at hB;generalize Lib.bitLen m=b at *;have HB:=hid hB;clear hB;by_cases hn:n<0
 ·have e1:n=-(m:Int)-1:=by rw[hmn,Wh.mag,if_pos hn];omega
  subst e1;clear hmn hl h1 h2;go_enter func108,ntmps108
  go_wp2_with (go_at_call 144;rw[zJQ m hm];refine(HB.out _).mono ?_;rintro e w' ⟨rfl,rfl⟩)
  go_ret
  refine⟨zIy ?_,rfl⟩;rw[HL.out];omega
 ·have e1:n=(m:Int):=by rw[hmn,Wh.mag,if_neg hn];omega
  subst e1;clear hmn hl h1 h2;go_enter func108,ntmps108
  go_wp2_with (go_at_call 144;refine(HB.out _).mono ?_;rintro e w' ⟨rfl,rfl⟩)
  go_ret
  refine⟨zIy ?_,rfl⟩;rw[HL.out];omega
namespace Wh
theorem be_drop1 (u k:Nat):(be (k+1) u).drop 1=be k u:=rfl
theorem be_drop (u:Nat):∀ (d j:Nat),(be (d+j) u).drop d=be j u
 |0,j=>by rw[Nat.zero_add];rfl
 |d+1,j=>by
  rw[show d+1+j=(d+j)+1 by omega,Nat.add_comm d 1,<-List.drop_drop,be_drop1,be_drop u d j]
theorem strip_drop:∀ l:List Nat,∃ d,d<=l.length/\strip l=l.drop d
 |[]=>⟨0,by simp,rfl⟩
 |[_]=>⟨0,by simp,rfl⟩
 |x :: y :: r=>by
  rw[strip];split
  ·obtain⟨d,h,e⟩:=strip_drop (y :: r);exact⟨d+1,by simp at h ⊢;omega,e⟩
  ·exact⟨0,by simp,rfl⟩
theorem body_be (n:Int):body n=be (body n).length (u64 n):=by
 obtain⟨d,h,e⟩:=strip_drop (be 8 (u64 n));rw[be_len]at h;obtain⟨j,hj⟩:∃ j,d+j=8:=⟨8-d,by omega⟩
 rw[<-hj,be_drop]at e;have hb:body n=be j (u64 n):=by rw[body,<-hj];exact e
 rw[hb,be_len]
end Wh
theorem zGu (m x:Nat) (t:List Nat):(zA1 (List.replicate (m+1) 0++t)).setIfInBounds m (.int .u8 (x:Int))=zA1 (List.replicate m 0++x :: t):=by
 unfold zA1;rw[List.setIfInBounds_toArray,List.replicate_succ',List.append_assoc,List.map_append,List.set_append_right _ _ (by simp)];simp
theorem zMS (L:Nat) (hL:L<=100) (W:World):(Instr.makeSlice 33 (.int .i64 (L:Int)) (.int .i64 (L:Int))).run prog W=.ok (.slice (some ⟨W.heap.size,0,none⟩) L L) (W.alloc (.cells (zA1 (List.replicate L 0)) 5)):=by
 obtain⟨iT,i1,i2,i3,i4⟩:=info_parts (P:=prog) (e:=5) (z:=.int .u8 0) (size:=1) (bytes:=1) (by kernel_rfl);rw[run_makeSlice W 33 5 iT (.int .u8 0) underlying33 i1 i2 .i64 .i64 L L (by omega) (by omega) (by rw[i3];simp;omega) (by rw[i4];simp;omega) (by omega),i3];have e:madeCells (Value.int IntKind.u8 0).cells (Int.toNat (L:Int)*1)=zA1 (List.replicate L 0):=by
  simp[madeCells,zA1,Value.cells];apply Array.ext
  ·simp
  ·intro i h1 h2;simp[Nat.mod_one]
 rw[e];rfl
theorem shr_byte (n:Int) (k:Nat) (hk:k<8):n/2 ^ (8*k)%256=((Wh.u64 n/256 ^ k%256:Nat):Int):=by
 have e:((2:Int) ^ (8*k))=((256 ^ k:Nat):Int):=by
  rw[show(256:Nat)=2 ^ 8 from rfl,<-Nat.pow_mul];exact(Int.natCast_pow 2 (8*k)).symm
 have hu:(Wh.u64 n:Int)=n%18446744073709551616:=by unfold Wh.u64;omega
 rw[e,Int.natCast_emod,Int.natCast_ediv,hu];obtain⟨q,hq⟩:∃ q,n=18446744073709551616*q+n%18446744073709551616:=⟨n/18446744073709551616,by omega⟩
 have hp:(18446744073709551616:Int)=((256 ^ k:Nat):Int)*((256 ^ (7-k):Nat):Int)*256:=by
  have:(18446744073709551616:Nat)=256 ^ k*256 ^ (7-k)*256:=by
   rw[<-Nat.pow_add,<-Nat.pow_succ,show(k+(7-k)).succ=8 by omega]
  rw[<-Int.natCast_mul,show(256:Int)=((256:Nat):Int)from rfl,<-Int.natCast_mul,<-this];rfl
 have hpos:(0:Int)<((256 ^ k:Nat):Int):=by have:=Wh.pow_pos k;omega
 generalize n%18446744073709551616=r at *;rw[hq,hp];generalize ((256 ^ k:Nat):Int)=p at *;generalize ((256 ^ (7-k):Nat):Int)=s at *;rw[show p*s*256*q+r=r+p*(s*256*q)by rw[Int.mul_assoc,Int.mul_assoc,Int.mul_assoc,Int.add_comm],Int.add_mul_ediv_left _ _ (by omega),show s*256*q=256*(s*q)by rw[Int.mul_comm s 256,Int.mul_assoc],Int.add_mul_emod_self_left];rfl
structure PutW (w wr:World) (L k u:Nat):Prop where
 grown:w.grownBy wr none
 blk:wr.heap[w.heap.size]?=some (.cells (zA1 (List.replicate (L-k) 0++Wh.be k u)) 5 (0,0))
theorem PutW.set {w wr:World} {m k u:Nat} (h:PutW w wr (m+k+1) k u):PutW w (wr.setCell ⟨w.heap.size,m,none⟩ (.int .u8 ((u/256 ^ k%256:Nat):Int))) (m+k+1) (k+1) u:=by
 refine⟨zAq h.grown (.inl (Nat.le_refl _)) _,?_⟩;have hb:=h.blk;rw[show m+k+1-k=m+1 by omega]at hb;rw[zAm hb,zGu,show m+k+1-(k+1)=m by omega,Wh.be]
theorem zLw (n:Int) (h1 : -9223372036854775808<=n) (h2:n<=9223372036854775807) (w:World) :
  Calls prog 67 #[.int .i64 n] w fun e w'=>e=.returned (.slice (some ⟨w.heap.size,0,none⟩) (Wh.body n).length (Wh.body n).length)/\w.grownBy w' none/\Bytes w' (.slice (some ⟨w.heap.size,0,none⟩) (Wh.body n).length (Wh.body n).length) (Wh.body n):=by
 have HWb:=hid (zG9 n h1 h2 w);have hbe:=Wh.body_be n;have hlt:=Wh.body_lt n;have hl8:=Wh.body_len n;obtain⟨l,hl⟩:∃ l,l=Wh.body n:=⟨_,rfl⟩
 rw[<-hl]at HWb hbe hlt hl8 ⊢;obtain⟨L,hL⟩:∃ L,L=l.length:=⟨_,rfl⟩
 rw[<-hL]at HWb hbe hl8 ⊢;have HSh:=hid (shr_byte n);generalize Wh.u64 n=u at *;have hmk:=zMS L (by omega) w;have P0:Hid (PutW w (w.alloc (.cells (zA1 (List.replicate L 0)) 5)) L 0 u):=hid ⟨World.grownBy_alloc _ _ _,by rw[alloc_at,Wh.be,List.append_nil];rfl⟩;have HBe:=hid hbe;have HLt:=hid hlt;have HLen:=hid hL;clear hbe hlt hl hL h1 h2;go_enter func67,ntmps67
 go_wp2_with (go_at_call 108;refine HWb.out.mono ?_;rintro e w' ⟨rfl,hw⟩;have hw2:=hw.symm;subst hw2)
 clear hmk;go_loopw [11] (fun i wr=>∃ k:Nat,k<=L/\i=.int .i64 k/\PutW w wr L k u) (fun i _=>L-(intOf i).toNat)
 case atStart=>exact⟨0,by omega,rfl,P0.out⟩
 case round =>
  obtain⟨k,hk,rfl,hP⟩:=hrel;have HP:=hid hP;clear hP;by_cases hkL:k<L
  ·obtain⟨m,rfl⟩:∃ m,L=m+k+1:=⟨L-k-1,by omega⟩
   have hz:wr.cell? ⟨w.heap.size,m,none⟩=some (.int .u8 0):=cell_blk HP.out.blk m (by rw[show m+k+1-k=m+1 by omega,zDG _ _ (by simp;omega)];simp[List.getD_eq_getElem?_getD,List.getElem?_append_left]);have hf:=zAh HP.out.blk m;have hS:=HP.out.set;rw[<-HSh.out k (by omega)]at hS;have HS:=hid hS;clear hS;go_wp2
   go_roundw
   case rel=>exact⟨k+1,by omega,by go_num,HS.out⟩
   case measure=>simp[intOf];omega
  ·obtain rfl:k=L:=by omega
   have hBy:Bytes wr (.slice (some ⟨w.heap.size,0,none⟩) k k) l:=by
    have hb:=HP.out.blk;rw[Nat.sub_self,List.replicate_zero,List.nil_append,<-HBe.out]at hb;rw[HLen.out];exact Bytes.lit (by simpa [zA1,cellsL]using hb) HLt.out
   have HBy:=hid hBy;clear hBy;go_wp2
   go_ret
   exact⟨rfl,HP.out.grown,HBy.out⟩
end Go.Proofs.YtijkaknggdaajaaGreatDoor
