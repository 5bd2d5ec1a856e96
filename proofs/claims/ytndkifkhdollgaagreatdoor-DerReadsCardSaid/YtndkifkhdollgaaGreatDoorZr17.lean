import Derived.Test.YtndkifkhdollgaaGreatDoorZr00
import Derived.Test.YtndkifkhdollgaaGreatDoorZr02
import Derived.Test.YtndkifkhdollgaaGreatDoorZr11
import Derived.Test.YtndkifkhdollgaaGreatDoorRows
import Derived.WalkKit
import Derived.WalkSpells
import Derived.WalkLawsBesides
import Derived.Deep.QuietTactic
import Derived.BigQuiet
import Derived.Laws.BitsAllLaws
import Derived.Lib.Hide
import Derived.Test.YtndkifkhdollgaaGreatDoorChecked
set_option linter.unusedVariables false
set_option linter.unusedSimpArgs false
set_option maxRecDepth 100000
set_option maxHeartbeats 2000000
namespace Go.Proofs.YtndkifkhdollgaaGreatDoor
open Lib (hid)
open Go.RowKit
theorem getD_lt' {l:List Nat} (h:∀ x∈l,x<256) (k:Nat):l.getD k 0<256:=by
 rw[List.getD_eq_getElem?_getD]
 cases e:l[k]? with
 |none=>simp
 |some x=>exact h x (List.mem_of_getElem? e)
def PartsW (w:World) (sb so:Nat) (parts:List (List Nat)):Prop :=
 ∀ i,i<parts.length→∃ v,w.cell? ⟨sb,so+i,none⟩=some v∧Bytes w v (parts.getD i [])∧Whole0 v
structure FrW (w w':World) (v:Value) (l:List Nat):Prop where
 grown:w.grownBy w' none
 own:w'.ownsRow w.heap.size 5 1 v l.length (cellsL l)
theorem FrW.alloc {w w':World} {v:Value} {l:List Nat} (h:FrW w w' v l) (o:Obj):FrW w (w'.alloc o) v l:=⟨grown_alloc h.grown o,h.own.alloc o⟩
theorem FrW.step {w b c:World} {v v':Value} {l l':List Nat} {n':Nat} {xs:List Value} (h:FrW w b v l) (ho:c.ownsRow w.heap.size 5 1 v' n' xs) (hg:b.grownBy c v.ownBlock) (e:xs=cellsL l'):FrW w c v' l':=by
 subst e
 have hn:n'=l'.length:=by have:=ho.1;rw[cellsL_len] at this;omega
 subst hn
 exact ⟨grown_own h.grown h.own (Nat.le_refl _) hg,ho⟩
theorem FrW.le {w w':World} {v:Value} {l:List Nat} (h:FrW w w' v l):w.heap.size≤w'.heap.size:=h.grown.size
theorem PartsW.grown {w w':World} {sb so:Nat} {parts:List (List Nat)} (h:PartsW w sb so parts) (hb:0<parts.length→sb<w.heap.size) (hg:w.grownBy w' none):PartsW w' sb so parts:=fun i hi=>by
 obtain ⟨v,h1,h2,h3⟩:=h i hi
 exact ⟨v,by rw[World.cell?_of_block (hg.block sb (hb (by omega)) (by simp))];exact h1,h2.grown hg,h3⟩
structure Errs (w:World) (eT eL:Value):Prop where
 text:w.cell? ⟨7,0,none⟩=some eT
 long:w.cell? ⟨2,0,none⟩=some eL
 size:7<w.heap.size∧2<w.heap.size
theorem Errs.grown {w w':World} {eT eL:Value} (h:Errs w eT eL) (hg:w.grownBy w' none):Errs w' eT eL :=
 ⟨by rw[World.cell?_of_block (hg.block _ h.size.1 (by simp))];exact h.text,by rw[World.cell?_of_block (hg.block _ h.size.2 (by simp))];exact h.long,Nat.lt_of_lt_of_le h.size.1 hg.size,Nat.lt_of_lt_of_le h.size.2 hg.size⟩
def marks:List Nat:=[201,202,203,204,205,206]
theorem marks_lt:∀ x∈marks,x<256:=by decide
def Room (w:World) (g:Nat) (l:List Nat):Prop:=∀ j,j<l.length+6→w.cell? ⟨g,j,none⟩=some (.int .u8 ((l++marks).getD j 0:Nat))
theorem Room.grown {w w':World} {g:Nat} {l:List Nat} {row:Option Nat} (h:Room w g l) (hb:g<w.heap.size) (hg:w.grownBy w' row) (hne:some g≠row):Room w' g l:=fun j hj=>by
 rw[World.cell?_of_block (hg.block g hb hne)];exact h j hj
theorem Room.bytes {w:World} {g c:Nat} {l:List Nat} (h:Room w g l) (hl:∀ x∈l,x<256) (hb:g<w.heap.size) (hc:l.length≤c):Bytes w (.slice (some ⟨g,0,none⟩) l.length c) l :=
 ⟨hl,_,g,0,c,rfl,hc,fun _=>⟨rfl,hb⟩,fun j hj=>by rw[Nat.zero_add,h j (by omega)];simp[List.getD_eq_getElem?_getD,List.getElem?_append_left hj]⟩
theorem numBytes_any (v:Value) (l:List Nat) (w:World) (hB:Bytes w v l) (h0:Whole0 v) (hl:l.length≤1099511620000) :
  Calls Tryz.prog 9 #[v] w fun e w'=>∃ g c,e=.returned (.slice (some ⟨g,0,none⟩) l.length c)∧l.length+6≤c∧c≤maxLen∧w.heap.size≤g∧(∃ cur fr,w'.heap[g]?=some (.cells cur 5 fr))∧w.grownBy w' none∧Room w' g l:=by
 have HB:=hid hB
 have H0:=hid h0
 obtain ⟨_,va,vb,vo,vc,rfl,_,_,_⟩:=hB
 obtain ⟨n,hn⟩:∃ n,n=l.length:=⟨_,rfl⟩
 have HN:=hid hn
 rw[←hn] at HB H0 hl ⊢
 clear hn h0
 obtain ⟨iT,i1,i2,i3,i4⟩:=info_parts (P:=Tryz.prog) (e:=5) (z:=.int .u8 0) (size:=1) (bytes:=1) (by kernel_rfl)
 have Hi1:=hid i1
 have Hi2:=hid i2
 have Hi3:=hid i3
 have Hi4:=hid i4
 clear i1 i2 i3 i4
 have hme:(cellsL marks).toArray=#[Value.int IntKind.u8 201,Value.int IntKind.u8 202,Value.int IntKind.u8 203,Value.int IntKind.u8 204,Value.int IntKind.u8 205,Value.int IntKind.u8 206]:=rfl
 go_enter Tryz.func9,Tryz.ntmps9
 go_wp2_with (first
  |(refine wpList_make_own _ (by rfl) (.const (.int .i64 0)) (.tmp 6) 22 (by rfl) w.heap.size 5 iT (.int .u8 0) 1 Tryz.underlying22 Hi1.out Hi2.out Hi3.out .i64 .i64 _ (n+6) (by rfl) (by rfl) (by go_num) (by rw[Hi4.out];omega) (by unfold maxLen;omega) (Nat.le_refl _) ?_;intro w1 ho1 hg1;have F1:=hid (FrW.mk (l:=[]) hg1 ho1);clear ho1 hg1)
  |(at_builtin;refine wpList_appB (by rfl) (.tmp 7) (.tmp 8) 22 (by rfl) w.heap.size 5 (.int .u8 0) 1 Tryz.underlying22 (by kernel_rfl) rfl (by decide) _ 0 [] (by rfl) F1.out.own _ l (by rfl) (HB.out.grown F1.out.grown) H0.out (by rw[←HN.out];omega) F1.out.le ?_;intro v2 w2 ho2 hg2;have F2:=hid (F1.out.step (l':=l) ho2 hg2 rfl);clear ho2 hg2)
  |(at_builtin;rw[←hme];refine wpList_appB (by rfl) (.tmp 9) (.tmp 10) 22 (by rfl) w.heap.size 5 (.int .u8 0) 1 Tryz.underlying22 (by kernel_rfl) rfl (by decide) v2 l.length (cellsL l) (by rfl) (F2.out.own.alloc _) (.slice (some ⟨w2.heap.size,0,none⟩) 6 6) marks (by rfl) (Bytes.lit (alloc_at w2 _) marks_lt) (Whole0.some _ _ _) (by show l.length+6≤_;rw[←HN.out];omega) (by have:=F2.out.le;rw[alloc_size];omega) ?_;intro v3 w3 ho3 hg3;have F3:=hid ((F2.out.alloc _).step (l':=l++marks) ho3 hg3 (cellsL_append _ _).symm);obtain ⟨a3,g,c,rfl,q1,q2,q3,q4⟩:=ownsRow_form ho3;have hq1:n+6≤c:=(by rw[HN.out];exact q1);obtain ⟨rfl,q5,q6⟩:=q3 (by show 0<l.length+6;omega);have HQ4:=hid q4;have hblk:∃ cur fr,w3.heap[g]?=some (.cells cur 5 fr):=(by rcases ho3.2 with ⟨e,_⟩|⟨g',cap',cur',e,_,hh,_⟩ <;> cases e;exact ⟨_,_,hh⟩);have hlm:l.length+marks.length=n+6:=(by rw[HN.out];rfl);rw[hlm];clear ho3 hg3 q3 q4 hlm))
 go_ret
 refine ⟨g,c,rfl,hq1,q2,q5,hblk,F3.out.grown,fun j hj=>?_⟩
 rw[HQ4.out j (by show j<l.length+6;exact hj)]
 rw[←cellsL_append]
 exact cellsL_at _ j (by rw[List.length_append];exact hj)
theorem kept_any (g n c:Nat) (u:Value) (l:List Nat) (w:World) (hn:l.length=n) (hc:n+6≤c) (hc2:c≤9223372036854775807) (hg:g<w.heap.size) (hR:Room w g l) (hB:Bytes w u l) :
  Calls Tryz.prog 22 #[.slice (some ⟨g,0,none⟩) n c,u] w fun e w'=>e=.returned (.bool true)∧∃ m,w'=w.drewN m:=by
 have hB2:=hR.bytes hB.lt hg (show l.length≤c by omega)
 rw[hn] at hB2
 have HR:=hid hR
 have HN:=hid hn
 have c1:∀ m,(convert 22 9 (.slice (some ⟨g,0,none⟩) n c)).run Tryz.prog (w.drewN m)=.ok (.string (strOf l)) (w.drewN m):=fun m=>conv_bytes (hB2.grown (grown_drewN (grown_refl _ _) m)) _ 5 _ Tryz.underlying22 Tryz.underlying5 Tryz.underlying9
 have c2:∀ m,(convert 22 9 u).run Tryz.prog (w.drewN m)=.ok (.string (strOf l)) (w.drewN m):=fun m=>conv_bytes (hB.grown (grown_drewN (grown_refl _ _) m)) _ 5 _ Tryz.underlying22 Tryz.underlying5 Tryz.underlying9
 obtain ⟨_,ua,ub,uo,uc,rfl,_,_,_⟩:=hB
 rw[hn] at c2 ⊢
 generalize strOf l=sl at c1 c2
 have d1:decide ((c:Int)<(n:Int)+6)=false:=decide_eq_false (by omega)
 clear hB2 hR hn
 go_enter Tryz.func22,Tryz.ntmps22
 go_wp2
 go_quiet (fail)
 go_wp2
 go_loopw [6] (fun i wr=>∃ k:Nat,k≤6∧i=.int .i64 k∧∃ q,wr=w.drewN q) (fun i _=>6-(intOf i).toNat)
 case atStart=>exact ⟨0,by omega,rfl,_,rfl⟩
 case round =>
  obtain ⟨k,hk,rfl,q,rfl⟩:=hrel
  by_cases hk6:k<6
  ·have hcell:w.cell? ⟨g,n+k,none⟩=some (.int .u8 (201+(k:Int))):=by
    have:=HR.out (n+k) (by rw[HN.out];omega)
    rw[this]
    have e:(l++marks).getD (n+k) 0=201+k:=by
     rw[List.getD_eq_getElem?_getD,List.getElem?_append_right (by rw[HN.out];omega),HN.out,show n+k-n=k by omega]
     match k,hk6 with
     |0,_=>rfl
     |1,_=>rfl
     |2,_=>rfl
     |3,_=>rfl
     |4,_=>rfl
     |5,_=>rfl
    rw[e];simp
   have hkk:n+k<c:=by omega
   clear d1 c1 c2
   go_wp2
   go_roundw
   case rel=>exact ⟨k+1,by omega,by go_num,q,rfl⟩
   case measure=>simp[intOf];omega
  ·obtain rfl:k=6:=by omega
   clear d1 c1 c2
   go_wp2
   go_ret
   exact ⟨rfl,q,rfl⟩
namespace Od
def septStep (n i:Nat) (acc:List Nat):List Nat:=if 0<n/128 ^ i%128∨0<acc.length∨i=0 then acc++[if 0<i then n/128 ^ i%128+128 else n/128 ^ i%128] else acc
def septUpto (n:Nat):Nat→List Nat
 |0=>[]
 |k+1=>septStep n (5-k) (septUpto n k)
def sept (n:Nat):List Nat:=septUpto n 6
end Od
def Vals (w:World) (v:Value) (xs:List Value):Prop :=
 ∃ (a:Option Addr) (sb so c:Nat),v=.slice a xs.length c∧xs.length≤c∧(0<xs.length→a=some ⟨sb,so,none⟩∧sb<w.heap.size)∧∀ j u,xs[j]?=some u→w.cell? ⟨sb,so+j,none⟩=some u
theorem Vals.grown {w w':World} {v:Value} {xs:List Value} (h:Vals w v xs) (hg:w.grownBy w' none):Vals w' v xs:=by
 obtain ⟨a,sb,so,c,h1,h2,h3,h4⟩:=h
 refine ⟨a,sb,so,c,h1,h2,fun hp=>⟨(h3 hp).1,Nat.lt_of_lt_of_le (h3 hp).2 hg.size⟩,fun j u hj=>?_⟩
 have hjl:=(List.getElem?_eq_some_iff.1 hj).1
 rw[World.cell?_of_block (hg.block sb (h3 (by omega)).2 (by simp))]
 exact h4 j u hj
theorem Vals.own {w:World} {base:Nat} {e:TypeId} {v:Value} {n:Nat} {xs:List Value} (h:w.ownsRow base e 1 v n xs):Vals w v xs:=by
 have hn:=h.1
 rw[Nat.mul_one] at hn
 subst hn
 obtain ⟨a,g,c,rfl,h1,h2,h3,h4⟩:=ownsRow_form h
 exact ⟨a,g,0,c,rfl,h1,fun hp=>⟨(h3 hp).1,(h3 hp).2.2⟩,fun j u hj=>by
  have hjl:=(List.getElem?_eq_some_iff.1 hj).1
  rw[Nat.zero_add,h4 j hjl,hj]⟩
theorem Vals.cap {w:World} {a:Option Addr} {n c:Nat} {xs:List Value} (h:Vals w (.slice a n c) xs):n=xs.length∧n≤c:=by
 obtain ⟨_,_,_,_,he,hc,_⟩:=h
 cases he
 exact ⟨rfl,hc⟩
theorem Vals.to {w:World} {a:Option Addr} {n c:Nat} {xs:List Value} (hB:Vals w (.slice a n c) xs) (k:Nat) (hk:k≤n):Vals w (.slice a k c) (xs.take k):=by
 obtain ⟨a1,sb,so,c1,he,hc,ha,hcell⟩:=hB
 cases he
 refine ⟨a,sb,so,c,by rw[List.length_take,Nat.min_eq_left hk],by rw[List.length_take];omega,fun hpos=>?_,fun j u hj=>?_⟩
 ·rw[List.length_take] at hpos
  exact ha (by omega)
 ·rw[List.getElem?_take] at hj
  split at hj
  ·exact hcell j u hj
  ·cases hj
theorem Vals.lit {w:World} {g:Nat} {t:TypeId} {fr:Nat×Nat} {xs:List Value} (h:w.heap[g]?=some (.cells xs.toArray t fr)):Vals w (.slice (some ⟨g,0,none⟩) xs.length xs.length) xs :=
 ⟨_,g,0,_,rfl,Nat.le_refl _,fun _=>⟨rfl,blk_lt h⟩,fun j u hj=>by rw[Nat.zero_add];exact cell_blk h j (by simpa using hj)⟩
theorem Vals.nil (w:World):Vals w (.slice none 0 0) []:=⟨none,0,0,0,rfl,Nat.le_refl _,fun h=>absurd h (Nat.lt_irrefl _),fun j u hj=>by simp at hj⟩
def Each (w:World):List Value→List (List Nat)→Prop
 |[],[]=>True
 |v :: vs,l :: ls=>(Bytes w v l∧Whole0 v)∧Each w vs ls
 |_,_=>False
theorem Each.grown {w w':World}:∀ {xs:List Value} {L:List (List Nat)},Each w xs L→w.grownBy w' none→Each w' xs L
 |[],[],_,_=>trivial
 |_ :: _,_ :: _,h,hg=>⟨⟨h.1.1.grown hg,h.1.2⟩,h.2.grown hg⟩
theorem Each.len {w:World}:∀ {xs:List Value} {L:List (List Nat)},Each w xs L→xs.length=L.length
 |[],[],_=>rfl
 |_ :: _,_ :: _,h=>by rw[List.length_cons,List.length_cons,h.2.len]
theorem Each.append {w:World}:∀ {xs ys:List Value} {L M:List (List Nat)},Each w xs L→Each w ys M→Each w (xs++ys) (L++M)
 |[],_,[],_,_,h=>h
 |_ :: _,_,_ :: _,_,h,h2=>⟨h.1,h.2.append h2⟩
theorem Each.take {w:World}:∀ {xs:List Value} {L:List (List Nat)} (k:Nat),Each w xs L→Each w (xs.take k) (L.take k)
 |_,_,0,_=>by simp[Each]
 |[],[],_+1,_=>trivial
 |_ :: _,_ :: _,k+1,h=>⟨h.1,h.2.take k⟩
theorem Each.at_ {w:World}:∀ {xs:List Value} {L:List (List Nat)} (k:Nat),Each w xs L→k<L.length→∃ v,xs[k]?=some v∧Bytes w v (L.getD k [])∧Whole0 v
 |[],[],_,_,hk=>absurd hk (Nat.not_lt_zero _)
 |v :: _,_ :: _,0,h,_=>⟨v,rfl,h.1.1,h.1.2⟩
 |_ :: _,_ :: _,k+1,h,hk=>by
  obtain ⟨v,h1,h2,h3⟩:=h.2.at_ k (by simpa using hk)
  exact ⟨v,by simpa using h1,by simpa using h2,h3⟩
theorem Each.one {w:World}:∀ {xs:List Value} {L:List (List Nat)},Each w xs L→∀ u∈xs,u.oneCell'=true
 |[],[],_,u,hu=>by cases hu
 |v :: vs,_ :: _,h,u,hu=>by
  rcases List.mem_cons.1 hu with e|hu
  ·subst e
   obtain ⟨_,a,_,_,c,rfl,_⟩:=h.1.1
   rfl
  ·exact h.2.one u hu
theorem Each.parts {w:World} {a:Option Addr} {n c:Nat} {xs:List Value} {L:List (List Nat)} (hV:Vals w (.slice a n c) xs) (h:Each w xs L):∃ sb so,L.length=n∧(0<n→a=some ⟨sb,so,none⟩∧sb<w.heap.size)∧PartsW w sb so L:=by
 obtain ⟨a1,sb,so,c1,he,hc,ha,hcell⟩:=hV
 cases he
 have hl:=h.len
 refine ⟨sb,so,hl.symm,ha,fun i hi=>?_⟩
 obtain ⟨v,h1,h2,h3⟩:=h.at_ i hi
 exact ⟨v,hcell i v h1,h2,h3⟩
section
variable {P:Program}
theorem wpList_appV {w:World} {ops:Array Oper} {rest:List Oper} {o:Oper} {a:Act} {Q:Exit→Act→World→Prop} (hgd:o.guard=none) (s x:Operand) (t:TypeId)
  (ho:o.op=.call { callee:=.builtin .append,args:=#[s,x],argTypes:=#[t,t] })
  (base:Nat) (e:TypeId) (z:Value) (bytes:Nat) (ht:P.underlying t=some (.slice e)) (hi:(P.info? e).map (fun i=>(i.zero,i.size,i.bytes))=some (some z,1,bytes)) (hzs:z.cells.size=1) (hby:bytes≤64)
  (v:Value) (n:Nat) (xs:List Value) (hs:a.eval s=v) (hown:w.ownsRow base e 1 v n xs)
  (u:Value) (l:List Value) (hx:a.eval x=u) (hB:Vals w u l) (h0:Whole0 u) (h1:∀ y∈l,y.oneCell'=true)
  (h63:n+l.length≤1099511627776) (hbase:base≤w.heap.size)
  (h:∀ v' w',w'.ownsRow base e 1 v' (n+l.length) (xs++l)→w.grownBy w' v.ownBlock→(v'.ownBlock=v.ownBlock∨v'.ownBlock=some w.heap.size)→wpList P ops Q rest (a.put o.dst v') w'):wpList P ops Q (o :: rest) a w:=by
 obtain ⟨i,h1',h2',h3',h4'⟩:=info_parts hi
 obtain ⟨ad,sb,so,c,rfl,hc,ha,hcell⟩:=hB
 match ad with
 |none =>
  obtain ⟨hn0,rfl⟩:=h0 _ _ rfl
  obtain rfl:=List.eq_nil_of_length_eq_zero hn0
  refine wpList_append_own_none hgd s x t ho base e i 1 ht h1' v n xs hs hown hx (h v w ?_ (grown_refl _ _) (.inl rfl))
  simpa using hown
 |some ad =>
  obtain ⟨v',w',hr,k1,k2,k3⟩:=run_append_sharp (P:=P) w base t o.type e i z ht h1' h2' h3' hzs (by rw[h4'];exact hby) v n xs hown ad l.length c l rfl (fun j u' hj=>by
   have hjl:=(List.getElem?_eq_some_iff.1 hj).1
   obtain ⟨e1,_⟩:=ha (by omega)
   obtain rfl:=Option.some.inj e1
   rw[addr_addO,hcell j u' hj]) h1 h63 hbase
  refine wpList_plain hgd fun K hK=>?_
  unfold Oper.wp execOp
  simp only[ho,resolve,invoke,builtin,Sem.run_bind,Sem.run_pure,Result.andThen_ok,List.map_toArray,List.map_cons,List.map_nil,hs,hx,hr]
  exact hK _ _ (h v' w' k1 k2 k3)
end
theorem elemLL:Tryz.prog.underlying 37=some (.slice (Tryz.prog.elem 37)):=by kernel_rfl
theorem sizeLL (w:World):(sizeOf (Tryz.prog.elem 37)).run Tryz.prog w=.ok 1 w:=by kernel_rfl
@[go_sem high] theorem run_fromL (w:World) (a:Option Addr) (n c:Nat) (i:Int) (h0:0≤i) (h1:i≤n) :
  (Instr.slice 37 (.slice a n c) (some (.int .i64 i)) none none).run Tryz.prog w=.ok (.slice (subA a i.toNat c) (n-i.toNat) (c-i.toNat)) w:=by
 rw[run_slice_l w 37 a n c elemLL .i64 i h0 h1,sizeLL]
 simp only[Result.andThen,sliced,Nat.mul_one,subA]
@[go_sem high] theorem run_toL (w:World) (a:Option Addr) (n c:Nat) (i:Int) (h0:0≤i) (h1:i≤c) :
  (Instr.slice 37 (.slice a n c) none (some (.int .i64 i)) none).run Tryz.prog w=.ok (.slice a i.toNat c) w:=by
 have hadd:∀ x:Addr,x.add 0=x:=fun x=>by unfold Addr.add;split <;> simp_all
 rw[run_slice_h w 37 a n c elemLL .i64 i h0 h1,sizeLL]
 simp only[Result.andThen,sliced,Nat.mul_one,Nat.sub_zero]
 congr 2
 split
 ·rfl
 ·cases a
  ·rfl
  ·simp[hadd]
structure Upto (O:Nat→Prop) (w w':World):Prop where
 os:w'.os=w.os
 tape:w'.tape=w.tape
 output:w'.output=w.output
 size:w.heap.size≤w'.heap.size
 block:∀ k,k<w.heap.size→¬ O k→w'.heap[k]?=w.heap[k]?
theorem Upto.refl (O:Nat→Prop) (w:World):Upto O w w:=⟨rfl,rfl,rfl,Nat.le_refl _,fun _ _ _=>rfl⟩
theorem Upto.of_grown {w w':World} (O:Nat→Prop) (h:w.grownBy w' none):Upto O w w':=⟨h.os,h.tape,h.output,h.size,fun k hk _=>h.block k hk (by simp)⟩
theorem Upto.of_row {w w':World} {O:Nat→Prop} {row:Option Nat} (h:w.grownBy w' row) (hr:∀ k,row=some k→O k∨w.heap.size≤k):Upto O w w' :=
 ⟨h.os,h.tape,h.output,h.size,fun k hk ho=>h.block k hk (fun e=>by
  rcases hr k e.symm with h1|h1
  ·exact ho h1
  ·omega)⟩
theorem Upto.trans {a b c:World} {O O2:Nat→Prop} (h:Upto O a b) (h2:Upto O2 b c) (hO:∀ k,k<a.heap.size→O2 k→O k):Upto O a c :=
 ⟨h2.os.trans h.os,h2.tape.trans h.tape,h2.output.trans h.output,Nat.le_trans h.size h2.size,fun k hk ho=>(h2.block k (Nat.lt_of_lt_of_le hk h.size) (fun h3=>ho (hO k hk h3))).trans (h.block k hk ho)⟩
theorem Upto.mono {a b:World} {O O2:Nat→Prop} (h:Upto O a b) (hO:∀ k,k<a.heap.size→O k→O2 k):Upto O2 a b :=
 ⟨h.os,h.tape,h.output,h.size,fun k hk ho=>h.block k hk (fun h2=>ho (hO k hk h2))⟩
theorem Upto.grown {a b:World} {O:Nat→Prop} (h:Upto O a b) (hO:∀ k,k<a.heap.size→¬ O k):a.grownBy b none :=
 ⟨h.os,h.tape,h.output,h.size,fun k hk _=>h.block k hk (hO k hk)⟩
structure Agree (F:Nat→Prop) (w w':World):Prop where
 size:w.heap.size≤w'.heap.size
 block:∀ k,F k→w'.heap[k]?=w.heap[k]?
theorem Agree.refl (F:Nat→Prop) (w:World):Agree F w w:=⟨Nat.le_refl _,fun _ _=>rfl⟩
theorem Agree.trans {F:Nat→Prop} {a b c:World} (h:Agree F a b) (h2:Agree F b c):Agree F a c:=⟨Nat.le_trans h.size h2.size,fun k hk=>(h2.block k hk).trans (h.block k hk)⟩
theorem Agree.mono {F G:Nat→Prop} {a b:World} (h:Agree G a b) (hF:∀ k,F k→G k):Agree F a b:=⟨h.size,fun k hk=>h.block k (hF k hk)⟩
structure Sup (F:Nat→Prop) (w:World) (P:World→Prop):Prop where
 lt:∀ k,F k→k<w.heap.size
 holds:∀ w',Agree F w w'→P w'
theorem Sup.now {F:Nat→Prop} {w:World} {P:World→Prop} (h:Sup F w P):P w:=h.holds w (Agree.refl F w)
theorem Sup.kept {F:Nat→Prop} {w w':World} {P:World→Prop} (h:Sup F w P) (ha:Agree F w w'):Sup F w' P :=
 ⟨fun k hk=>Nat.lt_of_lt_of_le (h.lt k hk) ha.size,fun w2 h2=>h.holds w2 (ha.trans h2)⟩
theorem Sup.agree {F O:Nat→Prop} {w w':World} {P:World→Prop} (h:Sup F w P) (hu:Upto O w w') (hd:∀ k,F k→¬ O k):Agree F w w' :=
 ⟨hu.size,fun k hk=>hu.block k (h.lt k hk) (hd k hk)⟩
theorem Sup.upto {F O:Nat→Prop} {w w':World} {P:World→Prop} (h:Sup F w P) (hu:Upto O w w') (hd:∀ k,F k→¬ O k):Sup F w' P:=h.kept (h.agree hu hd)
theorem Sup.grown {F:Nat→Prop} {w w':World} {P:World→Prop} (h:Sup F w P) (hg:w.grownBy w' none):Sup F w' P:=h.upto (Upto.of_grown (fun _=>False) hg) (fun _ _ h=>h)
theorem Sup.mono {F G:Nat→Prop} {w:World} {P:World→Prop} (h:Sup F w P) (hF:∀ k,F k→G k) (hG:∀ k,G k→k<w.heap.size):Sup G w P :=
 ⟨hG,fun w' ha=>h.holds w' (ha.mono hF)⟩
theorem Sup.map {F:Nat→Prop} {w:World} {P Q:World→Prop} (h:Sup F w P) (hq:∀ W,P W→Q W):Sup F w Q:=⟨h.lt,fun w' ha=>hq w' (h.holds w' ha)⟩
theorem Sup.and {F:Nat→Prop} {w:World} {P Q:World→Prop} (h:Sup F w P) (h2:Sup F w Q):Sup F w (fun W=>P W∧Q W):=⟨h.lt,fun w' ha=>⟨h.holds w' ha,h2.holds w' ha⟩⟩
def At (v:Value) (k:Nat):Prop:=∃ a n c,v=.slice (some a) n c∧a.block=k
theorem bytes_sup {F:Nat→Prop} {w:World} {v:Value} {l:List Nat} (h:Bytes w v l) (hF:∀ k,F k→k<w.heap.size) (hv:0<l.length→∀ k,At v k→F k):Sup F w (fun W=>Bytes W v l):=by
 obtain ⟨h1,a,sb,so,c,rfl,h3,h4,h5⟩:=h
 refine ⟨hF,fun w' ha=>⟨h1,a,sb,so,c,rfl,h3,fun hp=>⟨(h4 hp).1,Nat.lt_of_lt_of_le (h4 hp).2 ha.size⟩,fun j hj=>?_⟩⟩
 have hp:0<l.length:=by omega
 rw[World.cell?_of_block (ha.block sb (hv hp sb ⟨_,_,_,by rw[(h4 hp).1],rfl⟩))]
 exact h5 j hj
theorem vals_sup {F:Nat→Prop} {w:World} {v:Value} {xs:List Value} (h:Vals w v xs) (hF:∀ k,F k→k<w.heap.size) (hv:0<xs.length→∀ k,At v k→F k):Sup F w (fun W=>Vals W v xs):=by
 obtain ⟨a,sb,so,c,rfl,h3,h4,h5⟩:=h
 refine ⟨hF,fun w' ha=>⟨a,sb,so,c,rfl,h3,fun hp=>⟨(h4 hp).1,Nat.lt_of_lt_of_le (h4 hp).2 ha.size⟩,fun j u hj=>?_⟩⟩
 have hjl:=(List.getElem?_eq_some_iff.1 hj).1
 have hp:0<xs.length:=by omega
 rw[World.cell?_of_block (ha.block sb (hv hp sb ⟨_,_,_,by rw[(h4 hp).1],rfl⟩))]
 exact h5 j u hj
theorem own_sup {F:Nat→Prop} {w:World} {base:Nat} {e:TypeId} {s:Nat} {v:Value} {n:Nat} {xs:List Value} (h:w.ownsRow base e s v n xs) (hF:∀ k,F k→k<w.heap.size) (hv:∀ k,v.ownBlock=some k→F k):Sup F w (fun W=>W.ownsRow base e s v n xs):=by
 refine ⟨hF,fun w' ha=>⟨h.1,?_⟩⟩
 rcases h.2 with h1|⟨g,cap,cur,rfl,h2,h3,h4⟩
 ·exact .inl h1
 ·exact .inr ⟨g,cap,cur,rfl,h2,(ha.block g (hv g rfl)).trans h3,h4⟩
def Or0 (W0:World) (F:Nat→Prop) (k:Nat):Prop:=F k∨k<W0.heap.size
structure Held (W0 w:World) (F:Nat→Prop) (P:World→Prop):Prop where
 base:W0.grownBy w none
 own:∀ k,F k→W0.heap.size≤k
 sup:Sup (Or0 W0 F) w P
structure Turn (F F':Nat→Prop) (w w':World):Prop where
 upto:Upto F w w'
 mine:∀ k,k<w.heap.size→F' k→F k
def Apart (F G:Nat→Prop):Prop:=∀ k,F k→¬ G k
theorem Apart.symm {F G:Nat→Prop} (h:Apart F G):Apart G F:=fun k hg hf=>h k hf hg
theorem Turn.trans {F F' F'':Nat→Prop} {a b c:World} (h:Turn F F' a b) (k:Turn F' F'' b c):Turn F F'' a c :=
 ⟨h.upto.trans k.upto (fun j hj hf=>h.mine j hj hf),fun j hj hf=>h.mine j hj (k.mine j (Nat.lt_of_lt_of_le hj h.upto.size) hf)⟩
theorem Turn.of_grown {F:Nat→Prop} {w w':World} (h:w.grownBy w' none):Turn F F w w':=⟨Upto.of_grown F h,fun _ _ h=>h⟩
theorem grown_join {a b c:World} (h:a.grownBy b none) (hg:b.grownBy c none):a.grownBy c none :=
 ⟨hg.os.trans h.os,hg.tape.trans h.tape,hg.output.trans h.output,Nat.le_trans h.size hg.size,fun k hk _=>(hg.block k (Nat.lt_of_lt_of_le hk h.size) (by simp)).trans (h.block k hk (by simp))⟩
theorem Upto.base {W0 w w':World} {F:Nat→Prop} (hb:W0.grownBy w none) (hF:∀ k,F k→W0.heap.size≤k) (h:Upto F w w'):W0.grownBy w' none :=
 ⟨h.os.trans hb.os,h.tape.trans hb.tape,h.output.trans hb.output,Nat.le_trans hb.size h.size,fun k hk _=>(h.block k (Nat.lt_of_lt_of_le hk hb.size) (fun hf=>by have:=hF k hf;omega)).trans (hb.block k hk (by simp))⟩
section
variable {W0 w w':World} {F F' G:Nat→Prop} {P Q:World→Prop}
theorem Held.grown (h:Held W0 w F P) (hg:w.grownBy w' none):Held W0 w' F P:=⟨grown_join h.base hg,h.own,h.sup.grown hg⟩
end
structure FrV (w w':World) (v:Value) (xs:List Value):Prop where
 grown:w.grownBy w' none
 own:w'.ownsRow w.heap.size 22 1 v xs.length xs
theorem FrV.alloc {w w':World} {v:Value} {xs:List Value} (h:FrV w w' v xs) (o:Obj):FrV w (w'.alloc o) v xs:=⟨grown_alloc h.grown o,h.own.alloc o⟩
theorem FrV.step {w b c:World} {v v':Value} {xs ys:List Value} {n':Nat} (h:FrV w b v xs) (ho:c.ownsRow w.heap.size 22 1 v' n' ys) (hg:b.grownBy c v.ownBlock):FrV w c v' ys:=by
 have hn:n'=ys.length:=by have:=ho.1;omega
 subst hn
 exact ⟨grown_own h.grown h.own (Nat.le_refl _) hg,ho⟩
theorem FrV.first (w:World):FrV w (w.alloc (.cells #[] 22)) (.slice (some ⟨w.heap.size,0,none⟩) 0 0) [] :=
 ⟨World.grownBy_alloc _ _ _,World.ownsRow_lit w #[] 0 (Nat.le_refl _) (by unfold maxLen;omega) (by simp)⟩
theorem FrV.whole {w w':World} {v:Value} {xs:List Value} (h:FrV w w' v xs):Whole0 v:=by
 rcases h.own.2 with ⟨rfl,h0⟩|⟨g,cap,cur,rfl,_⟩
 ·intro n c e;cases e;exact ⟨rfl,rfl⟩
 ·exact Whole0.some _ _ _
theorem own_base {w:World} {b1 b2:Nat} {e:TypeId} {s:Nat} {v:Value} {n:Nat} {xs:List Value} (h:w.ownsRow b2 e s v n xs) (hb:b1≤b2):w.ownsRow b1 e s v n xs:=by
 refine ⟨h.1,?_⟩
 rcases h.2 with h1|⟨g,cap,cur,h1,h2,h3⟩
 ·exact .inl h1
 ·exact .inr ⟨g,cap,cur,h1,Nat.le_trans hb h2,h3⟩
namespace Pt
theorem sort_take (L:List (List Nat)) {j:Nat} (hj:j<L.length):L.take (j+1)=L.take j++[L.getD j []]:=by
 rw[List.take_add_one,List.getElem?_eq_getElem hj,List.getD_eq_getElem?_getD,List.getElem?_eq_getElem hj];rfl
end Pt
theorem shr_nat (m i:Nat):((m:Int)/2 ^ i).tmod 2=((m/2 ^ i%2:Nat):Int):=by
 have e:((m:Int)/2 ^ i)=((m/2 ^ i:Nat):Int):=by rw[Int.natCast_ediv,Int.natCast_pow];rfl
 rw[e,Int.tmod_eq_emod_of_nonneg (Int.natCast_nonneg _),Int.natCast_emod]
 rfl
theorem shr_nat' (m i:Nat):((m:Int)/2 ^ i)%2=((m/2 ^ i%2:Nat):Int):=by
 have e:((m:Int)/2 ^ i)=((m/2 ^ i:Nat):Int):=by rw[Int.natCast_ediv,Int.natCast_pow];rfl
 rw[e,Int.natCast_emod]
 rfl
namespace Pt
end Pt
namespace Pt
def bitsOf (l:List Nat):Nat:=rev8 (l.getD 1 0)+256*(if l.length=3 then rev8 (l.getD 2 0) else 0)
theorem bitsOf_lt {l:List Nat} (h:l.length=2∨l.length=3):bitsOf l<2 ^ (8*(l.length-1)):=by
 have a:=rev8_lt (l.getD 1 0)
 have b:=rev8_lt (l.getD 2 0)
 unfold bitsOf
 generalize rev8 (l.getD 1 0)=x at *
 generalize rev8 (l.getD 2 0)=y at *
 rcases h with h|h
 ·rw[h,if_neg (by decide)];show x+256*0<256;omega
 ·rw[h,if_pos rfl];show x+256*y<65536;omega
theorem bitsOf_low (l:List Nat):bitsOf l%256=rev8 (l.getD 1 0):=by
 have a:=rev8_lt (l.getD 1 0)
 unfold bitsOf
 generalize rev8 (l.getD 1 0)=x at *
 generalize (if l.length=3 then rev8 (l.getD 2 0) else 0)=y
 omega
theorem bitsOf_high {l:List Nat} (h:l.length=3):bitsOf l/256=rev8 (l.getD 2 0):=by
 have a:=rev8_lt (l.getD 1 0)
 unfold bitsOf
 rw[if_pos h]
 generalize rev8 (l.getD 1 0)=x at *
 generalize rev8 (l.getD 2 0)=y
 omega
theorem bitsOf_bit {l:List Nat} (h8:∀ j,l.getD j 0<256) (h:l.length=2∨l.length=3) {i:Nat} (hi:i<8*(l.length-1)):l.getD (1+i/8) 0/2 ^ (7-i%8)%2=bitsOf l/2 ^ i%2:=by
 rcases Nat.lt_or_ge i 8 with h1|h1
 ·rw[show 1+i/8=1 by omega,show i%8=i by omega,rev8_bit (h8 _) h1,←bit_lo (bitsOf l) i h1,bitsOf_low]
 ·obtain ⟨k,rfl⟩:∃ k,i=8+k:=⟨i-8,by omega⟩
  have h3:l.length=3:=by omega
  rw[show 1+(8+k)/8=2 by omega,show (8+k)%8=k by omega,rev8_bit (h8 _) (by omega),bit_high,bitsOf_high h3]
theorem mask_two {l:List Nat} (h:l.length=2∨l.length=3) (hu:l.getD 0 0≤7) :
  mask l=if 2 ^ (8*(l.length-1)-l.getD 0 0-1)≤bitsOf l∧bitsOf l<2 ^ (8*(l.length-1)-l.getD 0 0) then (if bitsOf l<32768 then .ok (bitsOf l) else .error 1) else .error 4:=by
 match l,h,hu with
 |[u,x],_,hu =>
  have a:=rev8_lt x
  have hu':u≤7:=hu
  have e:bitsOf [u,x]=rev8 x:=by simp[bitsOf]
  show mask [u,x]=if 2 ^ (8-u-1)≤bitsOf [u,x]∧bitsOf [u,x]<2 ^ (8-u) then _ else _
  rw[e,if_pos (show rev8 x<32768 by omega),mask,show 8-u-1=7-u by omega]
  by_cases c:2 ^ (7-u)≤rev8 x∧rev8 x<2 ^ (8-u)
  ·rw[if_pos ⟨hu',c⟩,if_pos c]
  ·rw[if_neg (fun h=>c h.2),if_neg c]
 |[u,x,y],_,hu =>
  have hu':u≤7:=hu
  have e:bitsOf [u,x,y]=rev8 x+256*rev8 y:=by simp[bitsOf]
  show mask [u,x,y]=if 2 ^ (16-u-1)≤bitsOf [u,x,y]∧bitsOf [u,x,y]<2 ^ (16-u) then _ else _
  rw[e,mask,show 16-u-1=15-u by omega]
  by_cases c:2 ^ (15-u)≤rev8 x+256*rev8 y∧rev8 x+256*rev8 y<2 ^ (16-u)
  ·rw[if_pos ⟨hu',c⟩,if_pos c]
  ·rw[if_neg (fun h=>c h.2),if_neg c]
 |[],h,_=>simp at h
 |[_],h,_=>simp at h
 |_ :: _ :: _ :: _ :: _,h,_=>simp at h
theorem mask_bad {l:List Nat} (h0:l≠[]) (h:7<l.getD 0 0∨3<l.length∨(l.length=1∧0<l.getD 0 0)):mask l=.error 4:=by
 match l,h0,h with
 |[u],_,h =>
  have:0<u:=by simp at h;omega
  rw[mask,if_neg (by omega)]
 |[u,x],_,h =>
  have:7<u:=by simpa using h
  rw[mask,if_neg (by omega)]
 |[u,x,y],_,h =>
  have:7<u:=by simpa using h
  rw[mask,if_neg (by omega)]
 |_ :: _ :: _ :: _ :: _,_,_=>rw[mask];all_goals simp
theorem mod_step (M i:Nat):M%2 ^ (i+1)=M%2 ^ i+2 ^ i*(M/2 ^ i%2):=Nat.mod_pow_succ
end Pt
def maskOut:Except Nat Nat→Value
 |.ok n=>.tuple #[.int .i64 (n:Int),.int .i64 0]
 |.error k=>.tuple #[.int .i64 0,.int .i64 (k:Int)]
theorem mo_ok (n:Nat):maskOut (.ok n)=.tuple #[.int .i64 (n:Int),.int .i64 0]:=rfl
theorem mo_er (k:Nat):maskOut (.error k)=.tuple #[.int .i64 0,.int .i64 (k:Int)]:=rfl
theorem refMask_any (v:Value) (l:List Nat) (w:World) (hB:Bytes w v l) (hl:l.length≤1000):Calls Tryz.prog 129 #[v] w fun e w'=>e=.returned (maskOut (Pt.mask l))∧w'=w:=by
 obtain ⟨h8,a,sb,so,c,rfl,hc,ha,hcell⟩:=hB
 by_cases h0:l.length=0
 ·obtain rfl:=List.eq_nil_of_length_eq_zero h0
  rw[show maskOut (Pt.mask [])=.tuple #[.int .i64 0,.int .i64 2] from rfl]
  go_enter Tryz.func129,Tryz.ntmps129
  go_wp2
  go_ret2
  exact ⟨rfl,rfl⟩
 ·obtain ⟨rfl,hsb⟩:=ha (by omega)
  have HC:Hid (∀ j,j<l.length→w.cell? ⟨sb,so+j,none⟩=some (.int .u8 ((l.getD j 0:Nat):Int))):=hid hcell
  have H8:Hid (∀ j,l.getD j 0<256):=hid (fun j=>by
   rcases Nat.lt_or_ge j l.length with h|h
   ·rw[List.getD_eq_getElem?_getD,List.getElem?_eq_getElem h];exact h8 _ (List.getElem_mem h)
   ·rw[List.getD_eq_getElem?_getD,List.getElem?_eq_none h];decide)
  have HBad:=hid (Pt.mask_bad (l:=l) (fun e=>h0 (by rw[e];rfl)))
  have c0:=hcell 0 (by omega)
  rw[Nat.add_zero] at c0
  have hu8:=H8.out 0
  obtain ⟨u,hu⟩:∃ u,u=l.getD 0 0:=⟨_,rfl⟩
  rw[←hu] at c0 HBad hu8
  obtain ⟨n,hn⟩:∃ n,n=l.length:=⟨_,rfl⟩
  have hne:((n:Int)==0)=false:=beq_eq_false_iff_ne.2 (by omega)
  have hn0:n≠0:=by omega
  rw[←hn] at HC HBad hc hl ⊢
  have HN:=hid hn
  have HU:=hid hu
  have E4:Hid (maskOut (.error 4)=.tuple #[.int .i64 0,.int .i64 4]):=hid rfl
  clear hcell ha h8 h0 hn hu
  rcases Nat.lt_or_ge 7 u with u1|u1
  ·have HE:=hid (HBad.out (.inl u1))
   rw[HE.out,E4.out]
   go_enter Tryz.func129,Tryz.ntmps129
   go_wp2
   go_ret2
   exact ⟨rfl,rfl⟩
  ·rcases Nat.lt_or_ge 3 n with n1|n1
   ·have HE:=hid (HBad.out (.inr (.inl n1)))
    rw[HE.out,E4.out]
    go_enter Tryz.func129,Tryz.ntmps129
    go_wp2
    go_ret2
    exact ⟨rfl,rfl⟩
   ·by_cases n2:n=1
    ·subst n2
     by_cases u0:u=0
     ·subst u0
      have HE:Hid (Pt.mask l=.ok 0):=hid (by
       have hn:=HN.out
       have hu:=HU.out
       match l,hn,hu with
       |[x],_,hu =>
        have:x=0:=hu.symm
        rw[this];rfl)
      rw[HE.out,show maskOut (.ok 0)=.tuple #[.int .i64 0,.int .i64 0] from rfl]
      have c0:w.cell? ⟨sb,so,none⟩=some (.int .u8 0):=c0
      go_enter Tryz.func129,Tryz.ntmps129
      go_wp2
      go_loopw [5,6] (fun m i wr=>m=.int .i64 0∧i=.int .i64 0∧wr=w) (fun _ i _=>0)
      case atStart=>exact ⟨rfl,rfl,rfl⟩
      case round =>
       obtain ⟨rfl,rfl,rfl⟩:=hrel
       go_wp2
       go_ret2
       exact ⟨rfl,rfl⟩
     ·have HE:=hid (HBad.out (.inr (.inr ⟨rfl,by omega⟩)))
      rw[HE.out,E4.out]
      have hne1:(((1:Nat):Int)-1)*8-(u:Int)<0:=by omega
      have up:0<u:=by omega
      clear u0
      go_enter Tryz.func129,Tryz.ntmps129
      go_wp2
      go_ret2
      exact ⟨rfl,rfl⟩
    ·have h23:l.length=2∨l.length=3:=by have:=HN.out;omega
     have hmt:=Pt.mask_two h23 (by rw[←HU.out];exact u1)
     have HBt:=hid (fun i h=>Pt.bitsOf_bit (l:=l) H8.out h23 (i:=i) h)
     have hlt:=Pt.bitsOf_lt h23
     rw[←HN.out,←HU.out] at hmt
     rw[←HN.out] at HBt hlt
     have HMs:=hid (Pt.mod_step (Pt.bitsOf l))
     generalize Pt.bitsOf l=M at *
     obtain ⟨N,hN⟩:∃ N,N=8*(n-1):=⟨_,rfl⟩
     obtain ⟨t,ht⟩:∃ t,t=N-u:=⟨_,rfl⟩
     rw[←hN] at hmt HBt hlt
     rw[←ht] at hmt
     have HMT:=hid hmt
     have HLt:=hid hlt
     have ht1:1≤t:=by omega
     have hN16:N≤16:=by omega
     have htN:t≤N:=by omega
     have hNi:((n:Int)-1)*8=(N:Int):=by omega
     have hti:(N:Int)-(u:Int)=(t:Int):=by omega
     have HQ:Hid (∀ i,i<N→1+i/8<n):=hid (fun i hi=>by omega)
     have HM4:Hid (¬ M<2 ^ t→Pt.mask l=.error 4):=hid (fun h=>by rw[hmt,if_neg (fun h2=>h h2.2)])
     clear hmt hlt hN ht n2 h23
     go_enter Tryz.func129,Tryz.ntmps129
     go_wp2
     clear c0
     go_loopw [5,6] (fun m i wr=>∃ j:Nat,j≤N∧i=.int .i64 (j:Int)∧m=.int .i64 ((M%2 ^ j:Nat):Int)∧(M%2 ^ j<2 ^ t)∧wr=w) (fun _ i _=>N-(intOf i).toNat)
     case atStart=>exact ⟨0,Nat.zero_le _,rfl,by rw[Nat.pow_zero,Nat.mod_one];rfl,by rw[Nat.pow_zero,Nat.mod_one];exact Nat.pow_pos (by decide),rfl⟩
     case round =>
      obtain ⟨j,hj,rfl,rfl,hjt,rfl⟩:=hrel
      have HJt:=hid hjt
      clear hjt
      by_cases hjN:j<N
      ·have hq:=HQ.out j hjN
       have hcj:=HC.out _ hq
       have hbt:=HBt.out j hjN
       have hms:=HMs.out j
       obtain ⟨r,hrr⟩:∃ r,r=j%8:=⟨_,rfl⟩
       have hri:(j:Int)%8=(r:Int):=by omega
       obtain ⟨cc,hcc⟩:∃ cc,cc=7-r:=⟨_,rfl⟩
       have hci:(7:Int)-(r:Int)=(cc:Int):=by omega
       have hc7:cc≤7:=by omega
       obtain ⟨q,hqq⟩:∃ q,q=1+j/8:=⟨_,rfl⟩
       have hqi:(1:Int)+(j:Int)/8=(q:Int):=by omega
       rw[←hrr,←hcc] at hbt
       rw[←hqq] at hbt hcj hq
       have hx8:=H8.out q
       generalize l.getD q 0=x at *
       have hb1:=shr_nat x cc
       have hb2:=shr_nat' x cc
       rw[hbt] at hb1 hb2
       have HBit:Hid (M/2 ^ j%2<2):=hid (Nat.mod_lt _ (by decide))
       have hpw:(2:Nat) ^ j≤65536:=Nat.pow_le_pow_right (n:=2) (j:=16) (by decide) (by omega)
       have hmm:M%2 ^ j<65536:=Nat.lt_of_lt_of_le (Nat.mod_lt _ (Nat.pow_pos (by decide))) hpw
       clear hbt hrr hcc hqq
       by_cases hbit:M/2 ^ j%2=1
       ·rw[hbit] at hb1 hb2 hms
        have hb1:((x:Int)/2 ^ cc).tmod 2=1:=hb1
        have hb2:((x:Int)/2 ^ cc)%2=1:=hb2
        rw[Nat.mul_one] at hms
        have HMs2:=hid hms
        by_cases hjt:t≤j
        ·have HE:=hid (HM4.out (fun h=>by
          have h1:M%2 ^ (j+1)≤M:=Nat.mod_le _ _
          have h2:2 ^ t≤2 ^ j:=Nat.pow_le_pow_right (by decide) hjt
          omega))
         clear hms hbit
         go_wp2
         go_ret2
         exact ⟨by rw[HE.out];rfl,rfl⟩
        ·have HNx:Hid (M%2 ^ (j+1)<2 ^ t):=hid (by
          have h1:M%2 ^ (j+1)<2 ^ (j+1):=Nat.mod_lt _ (Nat.pow_pos (by decide))
          have h2:2 ^ (j+1)≤2 ^ t:=Nat.pow_le_pow_right (by decide) (by omega)
          omega)
         generalize M%2 ^ j=a at *
         have hsh:(2:Int) ^ j=((2 ^ j:Nat):Int):=by rw[Int.natCast_pow];rfl
         obtain ⟨pw,hpw2⟩:∃ pw,pw=2 ^ j:=⟨_,rfl⟩
         rw[←hpw2] at hsh HMs2 hpw
         clear hms hbit hpw2
         go_wp2
         go_roundw
         case rel=>exact ⟨j+1,by omega,by go_num,by rw[HMs2.out];go_num,HNx.out,trivial⟩
         case measure=>simp[intOf];omega
       ·have hb0:M/2 ^ j%2=0:=by have:=HBit.out;omega
        rw[hb0] at hb1 hb2 hms
        have hb1:((x:Int)/2 ^ cc).tmod 2=0:=hb1
        have hb2:((x:Int)/2 ^ cc)%2=0:=hb2
        rw[Nat.mul_zero] at hms
        have hms:M%2 ^ (j+1)=M%2 ^ j:=hms
        have HMs2:=hid hms
        clear hms hbit hb0
        go_wp2
        go_roundw
        case rel=>exact ⟨j+1,by omega,by go_num,by rw[HMs2.out],by rw[HMs2.out];exact HJt.out,trivial⟩
        case measure=>simp[intOf];omega
      ·obtain rfl:j=N:=by omega
       have hmN:M%2 ^ j=M:=Nat.mod_eq_of_lt HLt.out
       rw[hmN] at HJt ⊢
       have HMT2:Hid (Pt.mask l=if 2 ^ (t-1)≤M then (if M<32768 then .ok M else .error 1) else .error 4):=hid (by
        rw[HMT.out]
        have:=HJt.out
        by_cases h:2 ^ (t-1)≤M
        ·rw[if_pos ⟨h,this⟩,if_pos h]
        ·rw[if_neg (fun h2=>h h2.1),if_neg h])
       have hM16:M<65536:=Nat.lt_of_lt_of_le HLt.out (Nat.pow_le_pow_right (n:=2) (j:=16) (by decide) hN16)
       clear hmN
       obtain ⟨t1,ht1'⟩:∃ t1,t1=t-1:=⟨_,rfl⟩
       have hti1:(t:Int)-1=(t1:Int):=by omega
       have ht16:t1≤15:=by omega
       rw[←ht1'] at HMT2
       have hsh:(2:Int) ^ t1=((2 ^ t1:Nat):Int):=by rw[Int.natCast_pow];rfl
       have hpw:(2:Nat) ^ t1≤32768:=Nat.pow_le_pow_right (n:=2) (j:=15) (by decide) ht16
       generalize 2 ^ t1=pw at *
       clear ht1'
       by_cases g1:pw≤M
       ·rcases Nat.lt_or_ge M 32768 with g2|g2
        ·have HE:Hid (Pt.mask l=.ok M):=hid (by rw[HMT2.out,if_pos g1,if_pos g2])
         obtain ⟨z,hz⟩:∃ z:Int,z=(M:Int):=⟨_,rfl⟩
         have g2i:z<32768:=by omega
         have hpi:(pw:Int)≤32768:=by omega
         have g1z:(pw:Int)≤z:=by omega
         have HZ:=hid hz
         rw[←hz]
         clear g2 hM16 hpw g1 hz
         go_wp2
         go_ret2
         have hzz:=HZ.out
         subst hzz
         exact ⟨by rw[HE.out,mo_ok];rfl,rfl⟩
        ·have HE:Hid (Pt.mask l=.error 1):=hid (by rw[HMT2.out,if_pos g1,if_neg (by omega)])
         obtain ⟨z,hz⟩:∃ z:Int,z=(M:Int):=⟨_,rfl⟩
         have g2i:32768≤z:=by omega
         have hpi:(pw:Int)≤32768:=by omega
         have g1z:(pw:Int)≤z:=by omega
         rw[←hz]
         clear g2 hM16 hpw g1 hz
         go_wp2
         go_ret2
         exact ⟨by rw[HE.out,mo_er];simp,rfl⟩
       ·have HE:Hid (Pt.mask l=.error 4):=hid (by rw[HMT2.out,if_neg g1])
        go_wp2
        go_ret2
        exact ⟨by rw[HE.out];rfl,rfl⟩
end Go.Proofs.YtndkifkhdollgaaGreatDoor
