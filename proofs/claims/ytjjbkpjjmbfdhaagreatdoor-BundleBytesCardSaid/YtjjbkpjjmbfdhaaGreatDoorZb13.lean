import Derived.Test.YtjjbkpjjmbfdhaaGreatDoorZb00
import Derived.Test.YtjjbkpjjmbfdhaaGreatDoorZb01
import Derived.Test.YtjjbkpjjmbfdhaaGreatDoorZb02
import Derived.Test.YtjjbkpjjmbfdhaaGreatDoorZb11
import Derived.Test.YtjjbkpjjmbfdhaaGreatDoorRows
import Derived.WalkKit
import Derived.WalkSpells
import Derived.WalkLawsBesides
import Derived.Deep.QuietTactic
import Derived.BigQuiet
import Derived.Laws.BitsAllLaws
import Derived.Lib.Hide
import Derived.Test.YtjjbkpjjmbfdhaaGreatDoorChecked
import Derived.Deep.RegionHeld3
set_option linter.unusedVariables false
set_option linter.unusedSimpArgs false
set_option maxRecDepth 100000
set_option maxHeartbeats 2000000
namespace Go.Proofs.YtjjbkpjjmbfdhaaGreatDoor
open Lib (hid)
open Go.RowKit
theorem getD_lt' {l:List Nat} (h:∀ x∈l,x<256) (k:Nat):l.getD k 0<256:=by
 rw[List.getD_eq_getElem?_getD]
 cases e:l[k]? with
 |none=>simp
 |some x=>exact h x (List.mem_of_getElem? e)
structure FrW (w w':World) (v:Value) (l:List Nat):Prop where
 grown:w.grownBy w' none
 own:w'.ownsRow w.heap.size 5 1 v l.length (cellsL l)
theorem FrW.alloc {w w':World} {v:Value} {l:List Nat} (h:FrW w w' v l) (o:Obj):FrW w (w'.alloc o) v l:=⟨grown_alloc h.grown o,h.own.alloc o⟩
theorem FrW.step {w b c:World} {v v':Value} {l l':List Nat} {n':Nat} {xs:List Value} (h:FrW w b v l) (ho:c.ownsRow w.heap.size 5 1 v' n' xs) (hg:b.grownBy c v.ownBlock) (e:xs=cellsL l'):FrW w c v' l':=by
 subst e
 have hn:n'=l'.length:=by have:=ho.1;rw[cellsL_len] at this;omega
 subst hn
 exact ⟨grown_own h.grown h.own (Nat.le_refl _) hg,ho⟩
theorem FrW.le {w w':World} {v:Value} {l:List Nat} (h:FrW w w' v l):w.heap.size≤w'.heap.size:=h.grown.size
def marks:List Nat:=[201,202,203,204,205,206]
def Room (w:World) (g:Nat) (l:List Nat):Prop:=∀ j,j<l.length+6→w.cell? ⟨g,j,none⟩=some (.int .u8 ((l++marks).getD j 0:Nat))
theorem Room.bytes {w:World} {g c:Nat} {l:List Nat} (h:Room w g l) (hl:∀ x∈l,x<256) (hb:g<w.heap.size) (hc:l.length≤c):Bytes w (.slice (some ⟨g,0,none⟩) l.length c) l :=
 ⟨hl,_,g,0,c,rfl,hc,fun _=>⟨rfl,hb⟩,fun j hj=>by rw[Nat.zero_add,h j (by omega)];simp[List.getD_eq_getElem?_getD,List.getElem?_append_left hj]⟩
namespace Od
def septStep (n i:Nat) (acc:List Nat):List Nat:=if 0<n/128 ^ i%128∨0<acc.length∨i=0 then acc++[if 0<i then n/128 ^ i%128+128 else n/128 ^ i%128] else acc
def septUpto (n:Nat):Nat→List Nat
 |0=>[]
 |k+1=>septStep n (5-k) (septUpto n k)
def sept (n:Nat):List Nat:=septUpto n 6
theorem septUpto_len (n:Nat):∀ k,(septUpto n k).length≤k
 |0=>by simp[septUpto]
 |k+1=>by
  have:=septUpto_len n k
  rw[septUpto,septStep]
  split
  ·simp;omega
  ·omega
theorem septUpto_lt (n:Nat):∀ k,∀ x∈septUpto n k,x<256
 |0=>by simp[septUpto]
 |k+1=>by
  intro x hx
  rw[septUpto,septStep] at hx
  split at hx
  ·rcases List.mem_append.1 hx with h|h
   ·exact septUpto_lt n k x h
   ·simp only[List.mem_singleton] at h
    subst h
    have:=Nat.mod_lt (n/128 ^ (5-k)) (show 0<128 by decide)
    split <;> omega
  ·exact septUpto_lt n k x hx
end Od
theorem sept_shr (n j:Nat):((n:Int)/2 ^ (7*j))=((n/128 ^ j:Nat):Int):=by
 have e:((2:Int) ^ (7*j))=((128 ^ j:Nat):Int):=by
  rw[show (128:Nat)=2 ^ 7 from rfl,←Nat.pow_mul]
  exact (Int.natCast_pow 2 (7*j)).symm
 rw[e,Int.natCast_ediv]
theorem refSept_any (n:Nat) (hn:n≤2147483800) (w:World) :
  Calls Tryz.prog 167 #[.int .i64 (n:Int)] w fun e w'=>∃ v,e=.returned v∧FrW w w' v (Od.sept n):=by
 have F0:Hid (FrW w (w.alloc (.cells #[] 5)) (.slice (some ⟨w.heap.size,0,none⟩) 0 0) []):=hid ⟨World.grownBy_alloc _ _ _,ownsRow_lit (alloc_at w _) (Nat.le_refl _) (by simp)⟩
 have HLe:=hid (Od.septUpto_len n)
 have HSh:=hid (sept_shr n)
 go_enter Tryz.func167,Tryz.ntmps167
 go_wp2
 go_loopw [3,4] (fun out i wr=>∃ k:Nat,k≤6∧i=.int .i64 (5-(k:Int))∧FrW w wr out (Od.septUpto n k)) (fun _ i _=>(intOf i+1).toNat)
 case atStart=>exact ⟨0,by omega,rfl,F0.out⟩
 case round =>
  obtain ⟨k,hk,rfl,hF⟩:=hrel
  have HF:=hid hF
  clear hF
  by_cases hk6:k<6
  ·obtain ⟨j,hj⟩:∃ j,k+j=5:=⟨5-k,by omega⟩
   have hjk:(5:Int)-(k:Int)=(j:Int):=by omega
   obtain ⟨out,ob,oc,hout,_⟩:=ownsRow_form HF.out.own
   subst hout
   rw[hjk]
   obtain ⟨p,hp⟩:∃ p,p=n/128 ^ j%128:=⟨_,rfl⟩
   have hp128:p<128:=by rw[hp];exact Nat.mod_lt _ (by decide)
   have hpe:((n:Int)/2 ^ (7*j)).tmod 128=(p:Int):=by
    rw[HSh.out,Int.tmod_eq_emod_of_nonneg (Int.natCast_nonneg _),hp,Int.natCast_emod]
    rfl
   have hst:Od.septUpto n (k+1)=if 0<p∨0<(Od.septUpto n k).length∨j=0 then Od.septUpto n k++[if 0<j then p+128 else p] else Od.septUpto n k:=by
    rw[Od.septUpto,Od.septStep,show 5-k=j by omega,←hp]
   have HAl:Hid ((Od.septUpto n k).length≤6):=hid (by have:=HLe.out k;omega)
   generalize Od.septUpto n k=acc at *
   have hst2:=hst
   clear hst
   have HNn:=hid hn
   clear hp hn
   by_cases hj0:j=0
   ·subst hj0
    have hpe1:(n:Int).tmod 128=(p:Int):=by simpa using hpe
    have hpe0:(n:Int)%128=(p:Int):=by rw[←hpe1,Int.tmod_eq_emod_of_nonneg (by omega)]
    clear hpe
    rw[if_pos (.inr (.inr rfl)),if_neg (by omega)] at hst2
    have HSt:Hid (Od.septUpto n (k+1)=acc++[p]):=hid hst2
    clear hst2
    by_cases hp0:0<p
    ·go_wp2_with (at_builtin;refine wpList_app1 (by rfl) (.tmp 32) (.tmp 35) 27 (by rfl) w.heap.size 5 (.int .u8 0) 1 Tryz.underlying27 (by kernel_rfl) rfl (by decide) _ acc.length (cellsL acc) (by rfl) (HF.out.own.alloc _) ⟨_,0,none⟩ (.int .u8 ((p:Int))) (by rfl) (cell_blk (alloc_at _ _) 0 rfl) rfl (by have:=HAl.out;omega) (by have:=HF.out.le;rw[alloc_size];omega) ?_;intro v' w3 ho3 hg3;have F3:=hid ((HF.out.alloc _).step (l':=acc++[p]) ho3 hg3 (by rw[cellsL_append];rfl));clear ho3 hg3)
     go_roundw
     case rel=>exact ⟨k+1,by omega,by go_num,by rw[HSt.out];exact F3.out⟩
     case measure=>simp[intOf] <;> omega
    ·obtain rfl:p=0:=by omega
     by_cases hl0:0<acc.length
     ·go_wp2_with (at_builtin;refine wpList_app1 (by rfl) (.tmp 32) (.tmp 35) 27 (by rfl) w.heap.size 5 (.int .u8 0) 1 Tryz.underlying27 (by kernel_rfl) rfl (by decide) _ acc.length (cellsL acc) (by rfl) (HF.out.own.alloc _) ⟨_,0,none⟩ (.int .u8 (((0:Nat):Int))) (by rfl) (cell_blk (alloc_at _ _) 0 rfl) rfl (by have:=HAl.out;omega) (by have:=HF.out.le;rw[alloc_size];omega) ?_;intro v' w3 ho3 hg3;have F3:=hid ((HF.out.alloc _).step (l':=acc++[0]) ho3 hg3 (by rw[cellsL_append];rfl));clear ho3 hg3)
      go_roundw
      case rel=>exact ⟨k+1,by omega,by go_num,by rw[HSt.out];exact F3.out⟩
      case measure=>simp[intOf] <;> omega
     ·go_wp2_with (at_builtin;refine wpList_app1 (by rfl) (.tmp 32) (.tmp 35) 27 (by rfl) w.heap.size 5 (.int .u8 0) 1 Tryz.underlying27 (by kernel_rfl) rfl (by decide) _ acc.length (cellsL acc) (by rfl) (HF.out.own.alloc _) ⟨_,0,none⟩ (.int .u8 (((0:Nat):Int))) (by rfl) (cell_blk (alloc_at _ _) 0 rfl) rfl (by have:=HAl.out;omega) (by have:=HF.out.le;rw[alloc_size];omega) ?_;intro v' w3 ho3 hg3;have F3:=hid ((HF.out.alloc _).step (l':=acc++[0]) ho3 hg3 (by rw[cellsL_append];rfl));clear ho3 hg3)
      go_roundw
      case rel=>exact ⟨k+1,by omega,by go_num,by rw[HSt.out];exact F3.out⟩
      case measure=>simp[intOf] <;> omega
   ·by_cases hp0:0<p
    ·rw[if_pos (.inl hp0),if_pos (by omega)] at hst2
     have HSt:Hid (Od.septUpto n (k+1)=acc++[p+128]):=hid hst2
     clear hst2
     go_wp2_with (at_builtin;refine wpList_app1 (by rfl) (.tmp 32) (.tmp 35) 27 (by rfl) w.heap.size 5 (.int .u8 0) 1 Tryz.underlying27 (by kernel_rfl) rfl (by decide) _ acc.length (cellsL acc) (by rfl) (HF.out.own.alloc _) ⟨_,0,none⟩ (.int .u8 (((p:Int)+128))) (by rfl) (cell_blk (alloc_at _ _) 0 rfl) rfl (by have:=HAl.out;omega) (by have:=HF.out.le;rw[alloc_size];omega) ?_;intro v' w3 ho3 hg3;have F3:=hid ((HF.out.alloc _).step (l':=acc++[p+128]) ho3 hg3 (by rw[cellsL_append];rfl));clear ho3 hg3)
     go_roundw
     case rel=>exact ⟨k+1,by omega,by go_num,by rw[HSt.out];exact F3.out⟩
     case measure=>simp[intOf] <;> omega
    ·obtain rfl:p=0:=by omega
     by_cases hl0:0<acc.length
     ·rw[if_pos (.inr (.inl hl0)),if_pos (by omega)] at hst2
      have HSt:Hid (Od.septUpto n (k+1)=acc++[0+128]):=hid hst2
      clear hst2
      go_wp2_with (at_builtin;refine wpList_app1 (by rfl) (.tmp 32) (.tmp 35) 27 (by rfl) w.heap.size 5 (.int .u8 0) 1 Tryz.underlying27 (by kernel_rfl) rfl (by decide) _ acc.length (cellsL acc) (by rfl) (HF.out.own.alloc _) ⟨_,0,none⟩ (.int .u8 (((0:Nat):Int)+128)) (by rfl) (cell_blk (alloc_at _ _) 0 rfl) rfl (by have:=HAl.out;omega) (by have:=HF.out.le;rw[alloc_size];omega) ?_;intro v' w3 ho3 hg3;have F3:=hid ((HF.out.alloc _).step (l':=acc++[0+128]) ho3 hg3 (by rw[cellsL_append];rfl));clear ho3 hg3)
      go_roundw
      case rel=>exact ⟨k+1,by omega,by go_num,by rw[HSt.out];exact F3.out⟩
      case measure=>simp[intOf] <;> omega
     ·rw[if_neg (by omega)] at hst2
      have HSt:Hid (Od.septUpto n (k+1)=acc):=hid hst2
      clear hst2
      go_wp2
      go_roundw
      case rel=>exact ⟨k+1,by omega,by go_num,by rw[HSt.out];exact HF.out⟩
      case measure=>simp[intOf] <;> omega
  ·obtain rfl:k=6:=by omega
   go_wp2
   go_ret
   exact ⟨_,rfl,HF.out⟩
def Vals (w:World) (v:Value) (xs:List Value):Prop :=
 ∃ (a:Option Addr) (sb so c:Nat),v=.slice a xs.length c∧xs.length≤c∧(0<xs.length→a=some ⟨sb,so,none⟩∧sb<w.heap.size)∧∀ j u,xs[j]?=some u→w.cell? ⟨sb,so+j,none⟩=some u
theorem Vals.grown {w w':World} {v:Value} {xs:List Value} (h:Vals w v xs) (hg:w.grownBy w' none):Vals w' v xs:=by
 obtain ⟨a,sb,so,c,h1,h2,h3,h4⟩:=h
 refine ⟨a,sb,so,c,h1,h2,fun hp=>⟨(h3 hp).1,Nat.lt_of_lt_of_le (h3 hp).2 hg.size⟩,fun j u hj=>?_⟩
 have hjl:=(List.getElem?_eq_some_iff.1 hj).1
 rw[World.cell?_of_block (hg.block sb (h3 (by omega)).2 (by simp))]
 exact h4 j u hj
theorem Vals.own {w:World} {base:Nat} {e:TypeId} {v:Value} {n:Nat} {xs:List Value} (h:w.ownsRow base e 1 v n xs):Vals w v xs:=by
 have hn:=h.1
 rw[Nat.mul_one] at hn
 subst hn
 obtain ⟨a,g,c,rfl,h1,h2,h3,h4⟩:=ownsRow_form h
 exact ⟨a,g,0,c,rfl,h1,fun hp=>⟨(h3 hp).1,(h3 hp).2.2⟩,fun j u hj=>by
  have hjl:=(List.getElem?_eq_some_iff.1 hj).1
  rw[Nat.zero_add,h4 j hjl,hj]⟩
theorem Vals.cap {w:World} {a:Option Addr} {n c:Nat} {xs:List Value} (h:Vals w (.slice a n c) xs):n=xs.length∧n≤c:=by
 obtain ⟨_,_,_,_,he,hc,_⟩:=h
 cases he
 exact ⟨rfl,hc⟩
theorem Vals.from {w:World} {a:Option Addr} {n c:Nat} {xs:List Value} (hB:Vals w (.slice a n c) xs) (k:Nat) (hk:k≤n):Vals w (.slice (subA a k c) (n-k) (c-k)) (xs.drop k):=by
 obtain ⟨a1,sb,so,c1,he,hc,ha,hcell⟩:=hB
 cases he
 refine ⟨subA a k c,sb,so+k,c-k,by rw[List.length_drop],by rw[List.length_drop];omega,fun hpos=>?_,fun j u hj=>?_⟩
 ·rw[List.length_drop] at hpos
  obtain ⟨e,hlt⟩:=ha (by omega)
  refine ⟨?_,hlt⟩
  rw[subA,if_neg (by omega),e,Option.map_some,addr_addO]
 ·rw[List.getElem?_drop] at hj
  have:=hcell (k+j) u hj
  rw[←Nat.add_assoc] at this
  exact this
theorem Vals.to {w:World} {a:Option Addr} {n c:Nat} {xs:List Value} (hB:Vals w (.slice a n c) xs) (k:Nat) (hk:k≤n):Vals w (.slice a k c) (xs.take k):=by
 obtain ⟨a1,sb,so,c1,he,hc,ha,hcell⟩:=hB
 cases he
 refine ⟨a,sb,so,c,by rw[List.length_take,Nat.min_eq_left hk],by rw[List.length_take];omega,fun hpos=>?_,fun j u hj=>?_⟩
 ·rw[List.length_take] at hpos
  exact ha (by omega)
 ·rw[List.getElem?_take] at hj
  split at hj
  ·exact hcell j u hj
  ·cases hj
theorem Vals.lit {w:World} {g:Nat} {t:TypeId} {fr:Nat×Nat} {xs:List Value} (h:w.heap[g]?=some (.cells xs.toArray t fr)):Vals w (.slice (some ⟨g,0,none⟩) xs.length xs.length) xs :=
 ⟨_,g,0,_,rfl,Nat.le_refl _,fun _=>⟨rfl,blk_lt h⟩,fun j u hj=>by rw[Nat.zero_add];exact cell_blk h j (by simpa using hj)⟩
theorem Vals.nil (w:World):Vals w (.slice none 0 0) []:=⟨none,0,0,0,rfl,Nat.le_refl _,fun h=>absurd h (Nat.lt_irrefl _),fun j u hj=>by simp at hj⟩
def Each (w:World):List Value→List (List Nat)→Prop
 |[],[]=>True
 |v :: vs,l :: ls=>(Bytes w v l∧Whole0 v)∧Each w vs ls
 |_,_=>False
theorem Each.grown {w w':World}:∀ {xs:List Value} {L:List (List Nat)},Each w xs L→w.grownBy w' none→Each w' xs L
 |[],[],_,_=>trivial
 |_ :: _,_ :: _,h,hg=>⟨⟨h.1.1.grown hg,h.1.2⟩,h.2.grown hg⟩
theorem Each.len {w:World}:∀ {xs:List Value} {L:List (List Nat)},Each w xs L→xs.length=L.length
 |[],[],_=>rfl
 |_ :: _,_ :: _,h=>by rw[List.length_cons,List.length_cons,h.2.len]
theorem Each.append {w:World}:∀ {xs ys:List Value} {L M:List (List Nat)},Each w xs L→Each w ys M→Each w (xs++ys) (L++M)
 |[],_,[],_,_,h=>h
 |_ :: _,_,_ :: _,_,h,h2=>⟨h.1,h.2.append h2⟩
theorem Each.take {w:World}:∀ {xs:List Value} {L:List (List Nat)} (k:Nat),Each w xs L→Each w (xs.take k) (L.take k)
 |_,_,0,_=>by simp[Each]
 |[],[],_+1,_=>trivial
 |_ :: _,_ :: _,k+1,h=>⟨h.1,h.2.take k⟩
theorem Each.drop {w:World}:∀ {xs:List Value} {L:List (List Nat)} (k:Nat),Each w xs L→Each w (xs.drop k) (L.drop k)
 |_,_,0,h=>h
 |[],[],_+1,_=>trivial
 |_ :: _,_ :: _,k+1,h=>h.2.drop k
theorem Each.at_ {w:World}:∀ {xs:List Value} {L:List (List Nat)} (k:Nat),Each w xs L→k<L.length→∃ v,xs[k]?=some v∧Bytes w v (L.getD k [])∧Whole0 v
 |[],[],_,_,hk=>absurd hk (Nat.not_lt_zero _)
 |v :: _,_ :: _,0,h,_=>⟨v,rfl,h.1.1,h.1.2⟩
 |_ :: _,_ :: _,k+1,h,hk=>by
  obtain ⟨v,h1,h2,h3⟩:=h.2.at_ k (by simpa using hk)
  exact ⟨v,by simpa using h1,by simpa using h2,h3⟩
theorem Each.one {w:World}:∀ {xs:List Value} {L:List (List Nat)},Each w xs L→∀ u∈xs,u.oneCell'=true
 |[],[],_,u,hu=>by cases hu
 |v :: vs,_ :: _,h,u,hu=>by
  rcases List.mem_cons.1 hu with e|hu
  ·subst e
   obtain ⟨_,a,_,_,c,rfl,_⟩:=h.1.1
   rfl
  ·exact h.2.one u hu
section
variable {P:Program}
theorem wpList_appV {w:World} {ops:Array Oper} {rest:List Oper} {o:Oper} {a:Act} {Q:Exit→Act→World→Prop} (hgd:o.guard=none) (s x:Operand) (t:TypeId)
  (ho:o.op=.call { callee:=.builtin .append,args:=#[s,x],argTypes:=#[t,t] })
  (base:Nat) (e:TypeId) (z:Value) (bytes:Nat) (ht:P.underlying t=some (.slice e)) (hi:(P.info? e).map (fun i=>(i.zero,i.size,i.bytes))=some (some z,1,bytes)) (hzs:z.cells.size=1) (hby:bytes≤64)
  (v:Value) (n:Nat) (xs:List Value) (hs:a.eval s=v) (hown:w.ownsRow base e 1 v n xs)
  (u:Value) (l:List Value) (hx:a.eval x=u) (hB:Vals w u l) (h0:Whole0 u) (h1:∀ y∈l,y.oneCell'=true)
  (h63:n+l.length≤1099511627776) (hbase:base≤w.heap.size)
  (h:∀ v' w',w'.ownsRow base e 1 v' (n+l.length) (xs++l)→w.grownBy w' v.ownBlock→(v'.ownBlock=v.ownBlock∨v'.ownBlock=some w.heap.size)→wpList P ops Q rest (a.put o.dst v') w'):wpList P ops Q (o :: rest) a w:=by
 obtain ⟨i,h1',h2',h3',h4'⟩:=info_parts hi
 obtain ⟨ad,sb,so,c,rfl,hc,ha,hcell⟩:=hB
 match ad with
 |none =>
  obtain ⟨hn0,rfl⟩:=h0 _ _ rfl
  obtain rfl:=List.eq_nil_of_length_eq_zero hn0
  refine wpList_append_own_none hgd s x t ho base e i 1 ht h1' v n xs hs hown hx (h v w ?_ (grown_refl _ _) (.inl rfl))
  simpa using hown
 |some ad =>
  obtain ⟨v',w',hr,k1,k2,k3⟩:=run_append_sharp (P:=P) w base t o.type e i z ht h1' h2' h3' hzs (by rw[h4'];exact hby) v n xs hown ad l.length c l rfl (fun j u' hj=>by
   have hjl:=(List.getElem?_eq_some_iff.1 hj).1
   obtain ⟨e1,_⟩:=ha (by omega)
   obtain rfl:=Option.some.inj e1
   rw[addr_addO,hcell j u' hj]) h1 h63 hbase
  refine wpList_plain hgd fun K hK=>?_
  unfold Oper.wp execOp
  simp only[ho,resolve,invoke,builtin,Sem.run_bind,Sem.run_pure,Result.andThen_ok,List.map_toArray,List.map_cons,List.map_nil,hs,hx,hr]
  exact hK _ _ (h v' w' k1 k2 k3)
end
theorem elemLL:Tryz.prog.underlying 95=some (.slice (Tryz.prog.elem 95)):=by kernel_rfl
theorem sizeLL (w:World):(sizeOf (Tryz.prog.elem 95)).run Tryz.prog w=.ok 1 w:=by kernel_rfl
@[go_sem high] theorem run_fromL (w:World) (a:Option Addr) (n c:Nat) (i:Int) (h0:0≤i) (h1:i≤n) :
  (Instr.slice 95 (.slice a n c) (some (.int .i64 i)) none none).run Tryz.prog w=.ok (.slice (subA a i.toNat c) (n-i.toNat) (c-i.toNat)) w:=by
 rw[run_slice_l w 95 a n c elemLL .i64 i h0 h1,sizeLL]
 simp only[Result.andThen,sliced,Nat.mul_one,subA]
@[go_sem high] theorem run_toL (w:World) (a:Option Addr) (n c:Nat) (i:Int) (h0:0≤i) (h1:i≤c) :
  (Instr.slice 95 (.slice a n c) none (some (.int .i64 i)) none).run Tryz.prog w=.ok (.slice a i.toNat c) w:=by
 have hadd:∀ x:Addr,x.add 0=x:=fun x=>by unfold Addr.add;split <;> simp_all
 rw[run_slice_h w 95 a n c elemLL .i64 i h0 h1,sizeLL]
 simp only[Result.andThen,sliced,Nat.mul_one,Nat.sub_zero]
 congr 2
 split
 ·rfl
 ·cases a
  ·rfl
  ·simp[hadd]
structure Upto (O:Nat→Prop) (w w':World):Prop where
 os:w'.os=w.os
 tape:w'.tape=w.tape
 output:w'.output=w.output
 size:w.heap.size≤w'.heap.size
 block:∀ k,k<w.heap.size→¬ O k→w'.heap[k]?=w.heap[k]?
theorem Upto.refl (O:Nat→Prop) (w:World):Upto O w w:=⟨rfl,rfl,rfl,Nat.le_refl _,fun _ _ _=>rfl⟩
theorem Upto.of_grown {w w':World} (O:Nat→Prop) (h:w.grownBy w' none):Upto O w w':=⟨h.os,h.tape,h.output,h.size,fun k hk _=>h.block k hk (by simp)⟩
theorem Upto.of_row {w w':World} {O:Nat→Prop} {row:Option Nat} (h:w.grownBy w' row) (hr:∀ k,row=some k→O k∨w.heap.size≤k):Upto O w w' :=
 ⟨h.os,h.tape,h.output,h.size,fun k hk ho=>h.block k hk (fun e=>by
  rcases hr k e.symm with h1|h1
  ·exact ho h1
  ·omega)⟩
theorem Upto.trans {a b c:World} {O O2:Nat→Prop} (h:Upto O a b) (h2:Upto O2 b c) (hO:∀ k,k<a.heap.size→O2 k→O k):Upto O a c :=
 ⟨h2.os.trans h.os,h2.tape.trans h.tape,h2.output.trans h.output,Nat.le_trans h.size h2.size,fun k hk ho=>(h2.block k (Nat.lt_of_lt_of_le hk h.size) (fun h3=>ho (hO k hk h3))).trans (h.block k hk ho)⟩
theorem Upto.mono {a b:World} {O O2:Nat→Prop} (h:Upto O a b) (hO:∀ k,k<a.heap.size→O k→O2 k):Upto O2 a b :=
 ⟨h.os,h.tape,h.output,h.size,fun k hk ho=>h.block k hk (fun h2=>ho (hO k hk h2))⟩
theorem Upto.drew {a b:World} {O:Nat→Prop} (h:Upto O a b):Upto O a b.drew:=⟨h.os,h.tape,h.output,h.size,h.block⟩
structure Agree (F:Nat→Prop) (w w':World):Prop where
 size:w.heap.size≤w'.heap.size
 block:∀ k,F k→w'.heap[k]?=w.heap[k]?
theorem Agree.refl (F:Nat→Prop) (w:World):Agree F w w:=⟨Nat.le_refl _,fun _ _=>rfl⟩
theorem Agree.trans {F:Nat→Prop} {a b c:World} (h:Agree F a b) (h2:Agree F b c):Agree F a c:=⟨Nat.le_trans h.size h2.size,fun k hk=>(h2.block k hk).trans (h.block k hk)⟩
theorem Agree.mono {F G:Nat→Prop} {a b:World} (h:Agree G a b) (hF:∀ k,F k→G k):Agree F a b:=⟨h.size,fun k hk=>h.block k (hF k hk)⟩
structure Sup (F:Nat→Prop) (w:World) (P:World→Prop):Prop where
 lt:∀ k,F k→k<w.heap.size
 holds:∀ w',Agree F w w'→P w'
theorem Sup.now {F:Nat→Prop} {w:World} {P:World→Prop} (h:Sup F w P):P w:=h.holds w (Agree.refl F w)
theorem Sup.kept {F:Nat→Prop} {w w':World} {P:World→Prop} (h:Sup F w P) (ha:Agree F w w'):Sup F w' P :=
 ⟨fun k hk=>Nat.lt_of_lt_of_le (h.lt k hk) ha.size,fun w2 h2=>h.holds w2 (ha.trans h2)⟩
theorem Sup.agree {F O:Nat→Prop} {w w':World} {P:World→Prop} (h:Sup F w P) (hu:Upto O w w') (hd:∀ k,F k→¬ O k):Agree F w w' :=
 ⟨hu.size,fun k hk=>hu.block k (h.lt k hk) (hd k hk)⟩
theorem Sup.upto {F O:Nat→Prop} {w w':World} {P:World→Prop} (h:Sup F w P) (hu:Upto O w w') (hd:∀ k,F k→¬ O k):Sup F w' P:=h.kept (h.agree hu hd)
theorem Sup.grown {F:Nat→Prop} {w w':World} {P:World→Prop} (h:Sup F w P) (hg:w.grownBy w' none):Sup F w' P:=h.upto (Upto.of_grown (fun _=>False) hg) (fun _ _ h=>h)
theorem Sup.mono {F G:Nat→Prop} {w:World} {P:World→Prop} (h:Sup F w P) (hF:∀ k,F k→G k) (hG:∀ k,G k→k<w.heap.size):Sup G w P :=
 ⟨hG,fun w' ha=>h.holds w' (ha.mono hF)⟩
theorem Sup.map {F:Nat→Prop} {w:World} {P Q:World→Prop} (h:Sup F w P) (hq:∀ W,P W→Q W):Sup F w Q:=⟨h.lt,fun w' ha=>hq w' (h.holds w' ha)⟩
theorem Sup.and {F:Nat→Prop} {w:World} {P Q:World→Prop} (h:Sup F w P) (h2:Sup F w Q):Sup F w (fun W=>P W∧Q W):=⟨h.lt,fun w' ha=>⟨h.holds w' ha,h2.holds w' ha⟩⟩
def At (v:Value) (k:Nat):Prop:=∃ a n c,v=.slice (some a) n c∧a.block=k
theorem bytes_sup {F:Nat→Prop} {w:World} {v:Value} {l:List Nat} (h:Bytes w v l) (hF:∀ k,F k→k<w.heap.size) (hv:0<l.length→∀ k,At v k→F k):Sup F w (fun W=>Bytes W v l):=by
 obtain ⟨h1,a,sb,so,c,rfl,h3,h4,h5⟩:=h
 refine ⟨hF,fun w' ha=>⟨h1,a,sb,so,c,rfl,h3,fun hp=>⟨(h4 hp).1,Nat.lt_of_lt_of_le (h4 hp).2 ha.size⟩,fun j hj=>?_⟩⟩
 have hp:0<l.length:=by omega
 rw[World.cell?_of_block (ha.block sb (hv hp sb ⟨_,_,_,by rw[(h4 hp).1],rfl⟩))]
 exact h5 j hj
theorem vals_sup {F:Nat→Prop} {w:World} {v:Value} {xs:List Value} (h:Vals w v xs) (hF:∀ k,F k→k<w.heap.size) (hv:0<xs.length→∀ k,At v k→F k):Sup F w (fun W=>Vals W v xs):=by
 obtain ⟨a,sb,so,c,rfl,h3,h4,h5⟩:=h
 refine ⟨hF,fun w' ha=>⟨a,sb,so,c,rfl,h3,fun hp=>⟨(h4 hp).1,Nat.lt_of_lt_of_le (h4 hp).2 ha.size⟩,fun j u hj=>?_⟩⟩
 have hjl:=(List.getElem?_eq_some_iff.1 hj).1
 have hp:0<xs.length:=by omega
 rw[World.cell?_of_block (ha.block sb (hv hp sb ⟨_,_,_,by rw[(h4 hp).1],rfl⟩))]
 exact h5 j u hj
theorem own_sup {F:Nat→Prop} {w:World} {base:Nat} {e:TypeId} {s:Nat} {v:Value} {n:Nat} {xs:List Value} (h:w.ownsRow base e s v n xs) (hF:∀ k,F k→k<w.heap.size) (hv:∀ k,v.ownBlock=some k→F k):Sup F w (fun W=>W.ownsRow base e s v n xs):=by
 refine ⟨hF,fun w' ha=>⟨h.1,?_⟩⟩
 rcases h.2 with h1|⟨g,cap,cur,rfl,h2,h3,h4⟩
 ·exact .inl h1
 ·exact .inr ⟨g,cap,cur,rfl,h2,(ha.block g (hv g rfl)).trans h3,h4⟩
def Or0 (W0:World) (F:Nat→Prop) (k:Nat):Prop:=F k∨k<W0.heap.size
structure Held (W0 w:World) (F:Nat→Prop) (P:World→Prop):Prop where
 base:W0.grownBy w none
 own:∀ k,F k→W0.heap.size≤k
 sup:Sup (Or0 W0 F) w P
structure Turn (F F':Nat→Prop) (w w':World):Prop where
 upto:Upto F w w'
 mine:∀ k,k<w.heap.size→F' k→F k
def Apart (F G:Nat→Prop):Prop:=∀ k,F k→¬ G k
theorem Apart.symm {F G:Nat→Prop} (h:Apart F G):Apart G F:=fun k hg hf=>h k hf hg
theorem Turn.trans {F F' F'':Nat→Prop} {a b c:World} (h:Turn F F' a b) (k:Turn F' F'' b c):Turn F F'' a c :=
 ⟨h.upto.trans k.upto (fun j hj hf=>h.mine j hj hf),fun j hj hf=>h.mine j hj (k.mine j (Nat.lt_of_lt_of_le hj h.upto.size) hf)⟩
theorem Turn.of_grown {F:Nat→Prop} {w w':World} (h:w.grownBy w' none):Turn F F w w':=⟨Upto.of_grown F h,fun _ _ h=>h⟩
theorem grown_join {a b c:World} (h:a.grownBy b none) (hg:b.grownBy c none):a.grownBy c none :=
 ⟨hg.os.trans h.os,hg.tape.trans h.tape,hg.output.trans h.output,Nat.le_trans h.size hg.size,fun k hk _=>(hg.block k (Nat.lt_of_lt_of_le hk h.size) (by simp)).trans (h.block k hk (by simp))⟩
theorem Upto.base {W0 w w':World} {F:Nat→Prop} (hb:W0.grownBy w none) (hF:∀ k,F k→W0.heap.size≤k) (h:Upto F w w'):W0.grownBy w' none :=
 ⟨h.os.trans hb.os,h.tape.trans hb.tape,h.output.trans hb.output,Nat.le_trans hb.size h.size,fun k hk _=>(h.block k (Nat.lt_of_lt_of_le hk hb.size) (fun hf=>by have:=hF k hf;omega)).trans (hb.block k hk (by simp))⟩
section
variable {W0 w w':World} {F F' G:Nat→Prop} {P Q:World→Prop}
theorem Held.now (h:Held W0 w F P):P w:=h.sup.now
theorem Held.lt (h:Held W0 w F P) {k:Nat} (hk:F k):k<w.heap.size:=h.sup.lt k (.inl hk)
theorem Held.map (h:Held W0 w F P) (hq:∀ W,P W→Q W):Held W0 w F Q:=⟨h.base,h.own,h.sup.map hq⟩
theorem or0_lt (hb:W0.grownBy w none) (hF:∀ k,F k→k<w.heap.size):∀ k,Or0 W0 F k→k<w.heap.size:=fun k hk=>by
 rcases hk with hk|hk
 ·exact hF k hk
 ·exact Nat.lt_of_lt_of_le hk hb.size
theorem Held.rest (h:Held W0 w F P):Held w w (fun _=>False) P :=
 ⟨⟨rfl,rfl,rfl,Nat.le_refl _,fun _ _ _=>rfl⟩,fun _ h=>h.elim,h.sup.mono (fun k hk=>.inr (h.sup.lt k hk)) (fun k hk=>by
  rcases hk with hk|hk
  ·exact hk.elim
  ·exact hk)⟩
theorem Held.wide (h:Held W0 w F P) (hFG:∀ k,F k→G k) (hG:∀ k,G k→W0.heap.size≤k∧k<w.heap.size):Held W0 w G P :=
 ⟨h.base,fun k hk=>(hG k hk).1,h.sup.mono (fun k hk=>hk.imp (hFG k) id) (or0_lt h.base (fun k hk=>(hG k hk).2))⟩
end
structure FrV (w w':World) (v:Value) (xs:List Value):Prop where
 grown:w.grownBy w' none
 own:w'.ownsRow w.heap.size 27 1 v xs.length xs
theorem FrV.alloc {w w':World} {v:Value} {xs:List Value} (h:FrV w w' v xs) (o:Obj):FrV w (w'.alloc o) v xs:=⟨grown_alloc h.grown o,h.own.alloc o⟩
theorem FrV.step {w b c:World} {v v':Value} {xs ys:List Value} {n':Nat} (h:FrV w b v xs) (ho:c.ownsRow w.heap.size 27 1 v' n' ys) (hg:b.grownBy c v.ownBlock):FrV w c v' ys:=by
 have hn:n'=ys.length:=by have:=ho.1;omega
 subst hn
 exact ⟨grown_own h.grown h.own (Nat.le_refl _) hg,ho⟩
theorem FrV.more {w b c:World} {v:Value} {xs:List Value} (h:FrV w b v xs) (hg:b.grownBy c none):FrV w c v xs:=⟨grown_trans h.grown hg,h.own.kept hg (Classical.em _)⟩
theorem FrV.first (w:World):FrV w (w.alloc (.cells #[] 27)) (.slice (some ⟨w.heap.size,0,none⟩) 0 0) [] :=
 ⟨World.grownBy_alloc _ _ _,World.ownsRow_lit w #[] 0 (Nat.le_refl _) (by unfold maxLen;omega) (by simp)⟩
theorem FrV.whole {w w':World} {v:Value} {xs:List Value} (h:FrV w w' v xs):Whole0 v:=by
 rcases h.own.2 with ⟨rfl,h0⟩|⟨g,cap,cur,rfl,_⟩
 ·intro n c e;cases e;exact ⟨rfl,rfl⟩
 ·exact Whole0.some _ _ _
theorem own_base {w:World} {b1 b2:Nat} {e:TypeId} {s:Nat} {v:Value} {n:Nat} {xs:List Value} (h:w.ownsRow b2 e s v n xs) (hb:b1≤b2):w.ownsRow b1 e s v n xs:=by
 refine ⟨h.1,?_⟩
 rcases h.2 with h1|⟨g,cap,cur,h1,h2,h3⟩
 ·exact .inl h1
 ·exact .inr ⟨g,cap,cur,h1,Nat.le_trans hb h2,h3⟩
theorem one_of {w:World} {y:Value} {l:List Nat} (h:Bytes w y l):∀ u∈[y],u.oneCell'=true:=fun u hu=>by
 rw[List.mem_singleton] at hu
 subst hu
 obtain ⟨_,a,_,_,c,rfl,_⟩:=h
 rfl
namespace Pt
theorem sort_take (L:List (List Nat)) {j:Nat} (hj:j<L.length):L.take (j+1)=L.take j++[L.getD j []]:=by
 rw[List.take_add_one,List.getElem?_eq_getElem hj,List.getD_eq_getElem?_getD,List.getElem?_eq_getElem hj];rfl
theorem sort_in {S:List (List Nat)} {t:Nat} (ht:t≤S.length) {x:List Nat} (h1:t=0∨∃ t',t=t'+1∧le (S.getD t' []) x) (h2:∀ i,t≤i→i<S.length→Cal.lex x (S.getD i [])=true) {l:List (List Nat)} (hS:sort l=S):sort (l++[x])=S.take t++x :: S.drop t:=by
 refine sort_snoc (by rw[List.take_append_drop];exact hS) ?_ ?_
 ·rcases h1 with h|⟨t',h,hle⟩
  ·subst h;exact .inl rfl
  ·subst h
   exact .inr ⟨S.take t',S.getD t' [],sort_take S (by omega),hle⟩
 ·intro y hy
  obtain ⟨i,hi,rfl⟩:=List.getElem_of_mem hy
  rw[List.length_drop] at hi
  have:=h2 (t+i) (by omega) (by omega)
  rw[List.getD_eq_getElem?_getD,List.getElem?_eq_getElem (by omega)] at this
  rw[List.getElem_drop]
  exact this
end Pt
theorem refSorted_any (a:Option Addr) (n c:Nat) (ys:List Value) (L:List (List Nat)) (w:World) (hV:Vals w (.slice a n c) ys) (hE:Each w ys L) (hn:n≤100000) :
  Calls Tryz.prog 96 #[.slice a n c] w fun e w'=>∃ u xs,e=.returned u∧FrV w w' u xs∧Each w' xs (Pt.sort L):=by
 have hln:L.length=n:=by rw[←hE.len];exact hV.cap.1.symm
 obtain ⟨a1,sb,so,c1,he,hc,ha,hcell⟩:=hV
 simp only[Value.slice.injEq] at he
 obtain ⟨rfl,hny,rfl⟩:=he
 rw[←hny] at hc ha
 have HE:=hid hE
 have HA:Hid (∀ j,j<n→a=some ⟨sb,so,none⟩∧sb<w.heap.size):=hid (fun j hj=>ha (by omega))
 have HIn:Hid (∀ W,w.grownBy W none→∀ j,j<n→∃ y,W.cell? ⟨sb,so+j,none⟩=some y∧Bytes W y (L.getD j [])∧Whole0 y):=hid (fun W hW j hj=>by
  obtain ⟨y,h1,h2,h3⟩:=hE.at_ j (by omega)
  exact ⟨y,by rw[World.cell?_of_block (hW.block sb (ha (by omega)).2 (by simp))];exact hcell j y h1,h2.grown hW,h3⟩)
 have HTk:Hid (∀ j,j<n→L.take (j+1)=L.take j++[L.getD j []]):=hid (fun j hj=>Pt.sort_take L (by omega))
 have HLn:Hid (∀ j,j≤n→(Pt.sort (L.take j)).length=j):=hid (fun j hj=>by rw[Pt.sort_len,List.length_take];omega)
 have HEnd:Hid (Pt.sort (L.take n)=Pt.sort L):=hid (by rw[List.take_of_length_le (by omega)])
 have F0:=hid (FrV.first w)
 have hi1:((Tryz.prog.info? 27).map (fun i=>(i.zero,i.size,i.bytes)))=some (some (.slice none 0 0),1,24):=by kernel_rfl
 have HI1:=hid hi1
 clear hE ha hcell hln hny hi1
 go_enter Tryz.func96,Tryz.ntmps96
 go_wp2
 go_loopw [3,11] (fun o i wr=>∃ (j:Nat) (xs:List Value),j≤n∧i=.int .i64 (j:Int)∧FrV w wr o xs∧Each wr xs (Pt.sort (L.take j))) (fun _ i _=>n-(intOf i).toNat)
 case atStart=>exact ⟨0,[],Nat.zero_le _,rfl,F0.out,trivial⟩
 case round =>
  obtain ⟨j,xs,hj,rfl,hF,hEa⟩:=hrel
  have HF:=hid hF
  have HEa:=hid hEa
  obtain ⟨ao,go,co,ho,hco,_,hao,hcl⟩:=ownsRow_form hF.own
  subst ho
  have hxl:xs.length=j:=by rw[hEa.len,HLn.out j hj]
  have HVs:=hid (Vals.own hF.own)
  rw[hxl] at HF HVs hco hao hcl ⊢
  have HCl:=hid hcl
  clear hcl
  by_cases hjn:j<n
  ·obtain ⟨rfl,_⟩:=HA.out j hjn
   obtain ⟨y,hy1,hy2,hy3⟩:=HIn.out wr hF.grown j hjn
   obtain ⟨ya,yl,yc,rfl⟩:∃ a l c,y=.slice a l c:=by
    obtain ⟨_,a,_,_,c,rfl,_⟩:=hy2
    exact ⟨_,_,_,rfl⟩
   have HY2:=hid hy2
   have HY3:=hid hy3
   obtain ⟨S,hS⟩:∃ S,S=Pt.sort (L.take j):=⟨_,rfl⟩
   have hSl:S.length=j:=by rw[hS];exact HLn.out j hj
   obtain ⟨x,hx⟩:∃ x,x=L.getD j []:=⟨_,rfl⟩
   have HNx:Hid (∀ t,t≤S.length→(t=0∨∃ t',t=t'+1∧Pt.le (S.getD t' []) x)→(∀ i,t≤i→i<S.length→Cal.lex x (S.getD i [])=true)→Pt.sort (L.take (j+1))=S.take t++x :: S.drop t):=hid (fun t ht h1 h2=>by
    rw[HTk.out j hjn,←hx]
    exact Pt.sort_in ht h1 h2 hS.symm)
   rw[←hS] at HEa
   rw[←hx] at HY2
   have HSl:=hid hSl
   have c2:∀ m,(convert 27 9 (.slice ya yl yc)).run Tryz.prog (wr.drewN m)=.ok (.string (strOf x)) (wr.drewN m):=fun m=>conv_bytes (HY2.out.grown (grown_drewN (grown_refl _ _) m)) _ 5 _ Tryz.underlying27 Tryz.underlying5 Tryz.underlying9
   have HC2:=hid c2
   have hxlt:=HY2.out.lt
   have HXl:=hid hxlt
   have HHo:=hid hao
   clear hF hEa hy2 hy3 hS hx hSl hxl c2 hxlt hao
   go_wp2
   obtain ⟨wo,hwo⟩:∃ wo:World,wo=wr:=⟨_,rfl⟩
   rw[←hwo] at HF HEa HVs HY2 HC2 HHo HCl hy1 ⊢
   clear hwo
   go_loopw [6] (fun k wr=>∃ t:Nat,t≤j∧k=.int .i64 (t:Int)∧(∃ q,wr=wo.drewN q)∧∀ i,t≤i→i<j→Cal.lex x (S.getD i [])=true) (fun k _=>(intOf k).toNat)
   case atStart=>exact ⟨j,Nat.le_refl _,rfl,⟨0,rfl⟩,fun i h1 h2=>absurd h1 (by omega)⟩
   case round =>
    obtain ⟨t,ht,rfl,⟨q,rfl⟩,hbe⟩:=hrel
    have HBe:=hid hbe
    clear hbe
    have c2:=HC2.out
    by_cases ht0:0<t
    ·obtain ⟨p,hp⟩:∃ p,p=t-1:=⟨_,rfl⟩
     have hpi:(t:Int)-1=(p:Int):=by omega
     have hpj:p<j:=by omega
     have hpt:p+1=t:=by omega
     clear hp
     obtain ⟨u,hu1,hu2,hu3⟩:=HEa.out.at_ p (by rw[HSl.out];omega)
     obtain ⟨rfl,_⟩:=HHo.out (by omega)
     have hcu:wo.cell? ⟨go,p,none⟩=some u:=(HCl.out p (by omega)).trans hu1
     have hlex:=str_less (strOf (S.getD p [])) (strOf x)
     rw[strL_strOf hu2.lt,strL_strOf HXl.out] at hlex
     have hbe2:=strOf_beq hu2.lt HXl.out
     have hcx:(!Op.bytesLess (strOf (S.getD p [])).toList (strOf x).toList&&!((strOf (S.getD p [])).toList==(strOf x).toList))=Cal.lex x (S.getD p []):=by
      rw[hlex,hbe2]
      rcases Pt.lex_tri x (S.getD p []) with h|h|h
      ·have h2:Cal.lex (S.getD p []) x=false:=Pt.le_of_lt h
       have h3:S.getD p []≠x:=fun e=>by rw[e,Pt.lex_irr] at h;cases h
       rw[h,h2,decide_eq_false h3];rfl
      ·rw[←h,Pt.lex_irr,decide_eq_true rfl];rfl
      ·have h2:Cal.lex x (S.getD p [])=false:=Pt.le_of_lt h
       rw[h,h2];rfl
     have c1:∀ m,(convert 27 9 u).run Tryz.prog (wo.drewN m)=.ok (.string (strOf (S.getD p []))) (wo.drewN m):=fun m=>conv_bytes (hu2.grown (grown_drewN (grown_refl _ _) m)) _ 5 _ Tryz.underlying27 Tryz.underlying5 Tryz.underlying9
     generalize strOf (S.getD p [])=s1 at *
     generalize strOf x=s2 at *
     have HPt:=hid hpt
     clear hu1 hu2 hu3 hlex hbe2 hpt
     by_cases hlt:Cal.lex x (S.getD p [])=true
     ·rw[hlt] at hcx
      have HL:=hid hlt
      have HCx:=hid hcx
      clear hlt hcx
      go_wp2
      go_quiet (fail)
      simp only[HCx.out]
      go_wp2
      go_roundw
      case rel=>exact ⟨p,by omega,by go_num,⟨_,rfl⟩,fun i h1 h2=>by
       rcases Nat.lt_or_ge p i with h|h
       ·exact HBe.out i (by have:=HPt.out;omega) h2
       ·obtain rfl:i=p:=by omega
        exact HL.out⟩
      case measure=>have:=HPt.out;simp[intOf];omega
     ·have hlf:Cal.lex x (S.getD p [])=false:=by rw[←Bool.not_eq_true];exact hlt
      rw[hlf] at hcx
      have HCx:=hid hcx
      have HSo:=hid (HNx.out t (by rw[HSl.out];exact ht) (.inr ⟨p,HPt.out.symm,hlf⟩) (fun i h1 h2=>HBe.out i h1 (by rw[←HSl.out];exact h2)))
      clear hlt hlf hcx
      go_wp2
      go_quiet (fail)
      simp only[HCx.out]
      obtain ⟨w3,hw3⟩:∃ w3,w3=(wo.drewN q).drewN nq:=⟨_,rfl⟩
      have hg3:wo.grownBy w3 none:=by rw[hw3];exact grown_drewN (grown_drewN (grown_refl _ _) _) _
      rw[←hw3]
      have HF3:=hid (HF.out.more hg3)
      have HE3:=hid (HEa.out.grown hg3)
      have hv3:=HVs.out.grown hg3
      have HXs:Hid (xs.length=j):=hid hv3.cap.1.symm
      have HY:=hid (HY2.out.grown hg3)
      have F1:=hid (FrV.first w3)
      have HVT:=hid (hv3.to t ht)
      have HVD:=hid (hv3.from t ht)
      have HWT:=hid (HF.out.whole.to t ht)
      have HWD:=hid (HF.out.whole.from t)
      have H1T:=hid (HE3.out.take t).one
      have H1D:=hid (HE3.out.drop t).one
      have htc:t≤co:=by omega
      clear hw3 hg3 hv3 hy1
      go_wp2_with (first
       |(at_builtin;refine wpList_appV (by rfl) (.tmp 32) (.tmp 35) 95 (by rfl) w3.heap.size 27 (.slice none 0 0) 24 Tryz.underlying95 HI1.out rfl (by decide) _ _ _ (by rfl) F1.out.own _ (xs.take t) (by rfl) (HVT.out.grown F1.out.grown) HWT.out H1T.out (by have:=HXs.out;simp;omega) (by rw[alloc_size];omega) ?_;intro v4 w4 ho4 hg4 hb4;have F4:=hid (F1.out.step ho4 hg4);clear ho4 hg4 hb4)
       |(at_builtin;refine wpList_appV (by rfl) (.tmp 37) (.tmp 39) 95 (by rfl) w3.heap.size 27 (.slice none 0 0) 24 Tryz.underlying95 HI1.out rfl (by decide) _ _ _ (by rfl) (F4.out.alloc _).own _ [.slice ya yl yc] (by rfl) (Vals.lit (xs:=[.slice ya yl yc]) (alloc_at w4 _)) (Whole0.some _ _ _) (one_of HY.out) (by have:=HXs.out;simp;omega) (by have:=F4.out.grown.size;rw[alloc_size];omega) ?_;intro v5 w5 ho5 hg5 hb5;have F5:=hid ((F4.out.alloc _).step ho5 hg5);clear ho5 hg5 hb5)
       |(at_builtin;refine wpList_appV (by rfl) (.tmp 41) (.tmp 44) 95 (by rfl) w3.heap.size 27 (.slice none 0 0) 24 Tryz.underlying95 HI1.out rfl (by decide) _ _ _ (by rfl) F5.out.own _ (xs.drop t) (by rfl) (HVD.out.grown F5.out.grown) HWD.out H1D.out (by have:=HXs.out;simp;omega) F5.out.grown.size ?_;intro v6 w6 ho6 hg6 hb6;have F6:=hid (F5.out.step ho6 hg6);clear ho6 hg6 hb6))
      go_roundw
      case rel=>exact ⟨j+1,_,by omega,by go_num,⟨grown_trans HF3.out.grown F6.out.grown,own_base F6.out.own HF3.out.grown.size⟩,by
       rw[HSo.out]
       have e:=((HE3.out.take t).grown F6.out.grown).append (Each.append (L:=[x]) (M:=S.drop t) (xs:=[.slice ya yl yc]) (ys:=xs.drop t) ⟨⟨HY.out.grown F6.out.grown,HY3.out⟩,trivial⟩ ((HE3.out.drop t).grown F6.out.grown))
       simpa [List.append_assoc] using e⟩
      case measure=>simp[intOf];omega
    ·have HSo:=hid (HNx.out t (by rw[HSl.out];exact ht) (.inl (by omega)) (fun i h1 h2=>HBe.out i h1 (by rw[←HSl.out];exact h2)))
     go_wp2
     go_quiet (fail)
     obtain ⟨w3,hw3⟩:∃ w3,w3=(wo.drewN q).drewN nq:=⟨_,rfl⟩
     have hg3:wo.grownBy w3 none:=by rw[hw3];exact grown_drewN (grown_drewN (grown_refl _ _) _) _
     rw[←hw3]
     have HF3:=hid (HF.out.more hg3)
     have HE3:=hid (HEa.out.grown hg3)
     have hv3:=HVs.out.grown hg3
     have HXs:Hid (xs.length=j):=hid hv3.cap.1.symm
     have HY:=hid (HY2.out.grown hg3)
     have F1:=hid (FrV.first w3)
     have HVT:=hid (hv3.to t ht)
     have HVD:=hid (hv3.from t ht)
     have HWT:=hid (HF.out.whole.to t ht)
     have HWD:=hid (HF.out.whole.from t)
     have H1T:=hid (HE3.out.take t).one
     have H1D:=hid (HE3.out.drop t).one
     have htc:t≤co:=by omega
     clear hw3 hg3 hv3 hy1
     go_wp2_with (first
      |(at_builtin;refine wpList_appV (by rfl) (.tmp 32) (.tmp 35) 95 (by rfl) w3.heap.size 27 (.slice none 0 0) 24 Tryz.underlying95 HI1.out rfl (by decide) _ _ _ (by rfl) F1.out.own _ (xs.take t) (by rfl) (HVT.out.grown F1.out.grown) HWT.out H1T.out (by have:=HXs.out;simp;omega) (by rw[alloc_size];omega) ?_;intro v4 w4 ho4 hg4 hb4;have F4:=hid (F1.out.step ho4 hg4);clear ho4 hg4 hb4)
      |(at_builtin;refine wpList_appV (by rfl) (.tmp 37) (.tmp 39) 95 (by rfl) w3.heap.size 27 (.slice none 0 0) 24 Tryz.underlying95 HI1.out rfl (by decide) _ _ _ (by rfl) (F4.out.alloc _).own _ [.slice ya yl yc] (by rfl) (Vals.lit (xs:=[.slice ya yl yc]) (alloc_at w4 _)) (Whole0.some _ _ _) (one_of HY.out) (by have:=HXs.out;simp;omega) (by have:=F4.out.grown.size;rw[alloc_size];omega) ?_;intro v5 w5 ho5 hg5 hb5;have F5:=hid ((F4.out.alloc _).step ho5 hg5);clear ho5 hg5 hb5)
      |(at_builtin;refine wpList_appV (by rfl) (.tmp 41) (.tmp 44) 95 (by rfl) w3.heap.size 27 (.slice none 0 0) 24 Tryz.underlying95 HI1.out rfl (by decide) _ _ _ (by rfl) F5.out.own _ (xs.drop t) (by rfl) (HVD.out.grown F5.out.grown) HWD.out H1D.out (by have:=HXs.out;simp;omega) F5.out.grown.size ?_;intro v6 w6 ho6 hg6 hb6;have F6:=hid (F5.out.step ho6 hg6);clear ho6 hg6 hb6))
     go_roundw
     case rel=>exact ⟨j+1,_,by omega,by go_num,⟨grown_trans HF3.out.grown F6.out.grown,own_base F6.out.own HF3.out.grown.size⟩,by
      rw[HSo.out]
      have e:=((HE3.out.take t).grown F6.out.grown).append (Each.append (L:=[x]) (M:=S.drop t) (xs:=[.slice ya yl yc]) (ys:=xs.drop t) ⟨⟨HY.out.grown F6.out.grown,HY3.out⟩,trivial⟩ ((HE3.out.drop t).grown F6.out.grown))
      simpa [List.append_assoc] using e⟩
     case measure=>simp[intOf];omega
  ·obtain rfl:j=n:=by omega
   rw[HEnd.out] at hEa
   have HEe:=hid hEa
   clear hF hEa hao
   go_wp2
   go_ret
   exact ⟨_,xs,rfl,by rw[←hxl] at HF;rw[←hxl];exact HF.out,HEe.out⟩
theorem makeB (L:Nat) (hL:L≤100) (W:World):(Instr.makeSlice 27 (.int .i64 (L:Int)) (.int .i64 (L:Int))).run Tryz.prog W=.ok (.slice (some ⟨W.heap.size,0,none⟩) L L) (W.alloc (.cells (bytesV (List.replicate L 0)) 5)):=by
 obtain ⟨iT,i1,i2,i3,i4⟩:=info_parts (P:=Tryz.prog) (e:=5) (z:=.int .u8 0) (size:=1) (bytes:=1) (by kernel_rfl)
 rw[run_makeSlice W 27 5 iT (.int .u8 0) Tryz.underlying27 i1 i2 .i64 .i64 L L (by omega) (by omega) (by rw[i3];simp;omega) (by rw[i4];simp;omega) (by omega),i3]
 have e:madeCells (Value.int IntKind.u8 0).cells (Int.toNat (L:Int)*1)=bytesV (List.replicate L 0):=by
  simp[madeCells,bytesV,Value.cells]
  apply Array.ext
  ·simp
  ·intro i h1 h2
   simp[Nat.mod_one]
 rw[e]
 rfl
theorem shr_nat (m i:Nat):((m:Int)/2 ^ i).tmod 2=((m/2 ^ i%2:Nat):Int):=by
 have e:((m:Int)/2 ^ i)=((m/2 ^ i:Nat):Int):=by rw[Int.natCast_ediv,Int.natCast_pow];rfl
 rw[e,Int.tmod_eq_emod_of_nonneg (Int.natCast_nonneg _),Int.natCast_emod]
 rfl
theorem shr_nat' (m i:Nat):((m:Int)/2 ^ i)%2=((m/2 ^ i%2:Nat):Int):=by
 have e:((m:Int)/2 ^ i)=((m/2 ^ i:Nat):Int):=by rw[Int.natCast_ediv,Int.natCast_pow];rfl
 rw[e,Int.natCast_emod]
 rfl
namespace Pt
def rowV (L u m i:Nat):Array Value:=bytesV ((rowL u m i).take L)
theorem rowV_zero {L:Nat} (h1:1≤L) (h3:L≤3) (u m:Nat):(bytesV (List.replicate L 0)).setIfInBounds 0 (.int .u8 (u:Int))=rowV L u m 0:=by
 have e:rowL u m 0=[u,0,0]:=by
  rw[rowL,Nat.pow_zero,Nat.mod_one];rfl
 unfold rowV
 rw[e]
 match L,h1,h3 with
 |1,_,_=>rfl
 |2,_,_=>rfl
 |3,_,_=>rfl
theorem take_set (l:List Nat) (L k x:Nat):(l.set k x).take L=(l.take L).set k x:=by
 rw[List.take_set]
theorem bytesV_set (l:List Nat) (k x:Nat):(bytesV l).setIfInBounds k (.int .u8 (x:Int))=bytesV (l.set k x):=by
 unfold bytesV
 rw[List.setIfInBounds_toArray,List.map_set]
theorem rowV_step {L u m i:Nat} (hm:m<32768) (hi:i<15) (hb:m/2 ^ i%2=1):(rowV L u m i).setIfInBounds (1+i/8) (.int .u8 (((rowL u m i).getD (1+i/8) 0+2 ^ (7-i%8):Nat):Int))=rowV L u m (i+1):=by
 unfold rowV
 rw[bytesV_set,←take_set,rowL_step u hm hi,if_pos hb]
theorem set_same (l:List Nat) (k:Nat):l.set k (l.getD k 0)=l:=by
 apply List.ext_getElem?
 intro j
 rw[List.getElem?_set]
 split
 ·rename_i h
  subst h
  split
  ·rename_i h;rw[List.getD_eq_getElem?_getD,List.getElem?_eq_getElem h];rfl
  ·rename_i h;rw[List.getElem?_eq_none (by omega)]
 ·rfl
theorem rowV_stay {L u m i:Nat} (hm:m<32768) (hi:i<15) (hb:m/2 ^ i%2≠1):rowV L u m (i+1)=rowV L u m i:=by
 unfold rowV
 rw[rowL_step u hm hi,if_neg hb,Nat.add_zero,set_same]
theorem rowV_at {L u m i q:Nat} (hq:q<L) (h3:L≤3):(rowV L u m i)[q]?=some (.int .u8 (((rowL u m i).getD q 0:Nat):Int)):=by
 unfold rowV
 have e:((rowL u m i).take L).length=L:=by rw[List.length_take];simp[rowL];omega
 rw[bytesV_at _ q (by omega)]
 rw[List.getD_eq_getElem?_getD,List.getElem?_take,if_pos hq,←List.getD_eq_getElem?_getD]
theorem row_room {u m i:Nat} (hm:m<32768) (hi:i<15) (hu:u<256) (hb:m/2 ^ i%2=1):(rowL u m i).getD (1+i/8) 0+2 ^ (7-i%8)<256:=by
 have h:=rowL_lt u m (i+1) hu (1+i/8)
 rw[rowL_step u hm hi,if_pos hb] at h
 rw[List.getD_eq_getElem?_getD,List.getElem?_set,if_pos rfl,if_pos (by simp[rowL];omega)] at h
 exact h
theorem shr128:∀ i:Fin 8,(128:Int)/2 ^ i.val=((2 ^ (7-i.val):Nat):Int):=by decide
end Pt
theorem refFlags_any (m:Nat) (hm:m<32768) (w:World):Calls Tryz.prog 133 #[.int .i64 (m:Int)] w fun e w'=>∃ v,e=.returned v∧Bytes w' v (Pt.flags m)∧w.grownBy w' none:=by
 have HB:=hid (shr_nat m)
 have HSz:=hid (Pt.size_step m)
 have H15:=hid (Pt.size_15 hm)
 have HM15:Hid (m%2 ^ 15=m):=hid (Nat.mod_eq_of_lt hm)
 have HSl:Hid (∀ i,i≤15→Pt.size (m%2 ^ i)≤15):=hid (fun i _=>Pt.size_15 (Nat.lt_of_le_of_lt (Nat.mod_le _ _) hm))
 have HS0:Hid (Pt.size (m%2 ^ 0)=0):=hid (by rw[Nat.pow_zero,Nat.mod_one];rfl)
 go_enter Tryz.func133,Tryz.ntmps133
 go_wp2
 go_loopw [3,4] (fun n i wr=>∃ j:Nat,j≤15∧i=.int .i64 (j:Int)∧n=.int .i64 ((Pt.size (m%2 ^ j):Nat):Int)∧wr=w) (fun _ i _=>15-(intOf i).toNat)
 case atStart=>exact ⟨0,Nat.zero_le _,rfl,by rw[HS0.out];rfl,rfl⟩
 case round =>
  obtain ⟨j,hj,rfl,rfl,rfl⟩:=hrel
  by_cases hlt:j<15
  ·have hb:=HB.out j
   have hs:=HSz.out j
   obtain ⟨b,hbb⟩:∃ b,b=m/2 ^ j%2:=⟨_,rfl⟩
   rw[←hbb] at hb hs
   have hb2:b<2:=by rw[hbb];exact Nat.mod_lt _ (by decide)
   clear hbb
   by_cases h1:b=1
   ·subst h1
    have hb:((m:Int)/2 ^ j).tmod 2=1:=hb
    rw[if_pos rfl] at hs
    have HS:=hid hs
    generalize Pt.size (m%2 ^ j)=z at *
    clear hs
    go_wp2
    go_roundw
    case rel=>exact ⟨j+1,by omega,by go_num,by rw[HS.out];go_num,trivial⟩
    case measure=>simp[intOf];omega
   ·obtain rfl:b=0:=by omega
    have hb:((m:Int)/2 ^ j).tmod 2=0:=hb
    rw[if_neg (by decide)] at hs
    have HS:=hid hs
    generalize Pt.size (m%2 ^ j)=z at *
    clear hs
    go_wp2
    go_roundw
    case rel=>exact ⟨j+1,by omega,by go_num,by rw[HS.out],trivial⟩
    case measure=>simp[intOf];omega
  ·obtain rfl:j=15:=by omega
   rw[HM15.out]
   obtain ⟨k,hk⟩:∃ k,k=Pt.size m:=⟨_,rfl⟩
   have hk15:=H15.out
   rw[←hk] at hk15 ⊢
   obtain ⟨L,hL⟩:∃ L,L=1+(k+7)/8:=⟨_,rfl⟩
   have hLI:(1:Int)+((k:Int)+7)/8=(L:Int):=by omega
   have hL1:1≤L:=by omega
   have hL3:L≤3:=by omega
   have hmk:=makeB L (by omega) wr
   obtain ⟨u,hu⟩:∃ u,u=8*(L-1)-k:=⟨_,rfl⟩
   have hu7:u≤7:=by omega
   have huI:((L:Int)-1)*8-(k:Int)=(u:Int):=by omega
   have HEnd:Hid ((Pt.rowL u m k).take L=Pt.flags m):=hid (by rw[hu,hL,hk,Nat.add_sub_cancel_left];exact Pt.flags_take hm)
   have HG:=hid (World.grownBy_alloc wr (.cells (bytesV (List.replicate L 0)) 5) none)
   have hrow:=alloc_at wr (.cells (bytesV (List.replicate L 0)) 5)
   obtain ⟨W1,hW1⟩:∃ W1,W1=wr.alloc (.cells (bytesV (List.replicate L 0)) 5):=⟨_,rfl⟩
   rw[←hW1] at hmk HG hrow
   have x0:W1.cell? ⟨wr.heap.size,0,none⟩=some (.int .u8 0):=cell_blk hrow 0 (by rw[bytesV_at _ 0 (by simp;omega)];simp[List.getD_eq_getElem?_getD];rw[List.getElem?_replicate,if_pos (by omega)];rfl)
   have y0:=free_blk hrow 0
   have HR0:Hid ((W1.setCell ⟨wr.heap.size,0,none⟩ (.int .u8 (u:Int))).heap[wr.heap.size]?=some (.cells (Pt.rowV L u m 0) 5 (0,0))):=hid (by
    rw[setCell_heap hrow,Pt.rowV_zero hL1 hL3])
   have HG0:Hid (wr.grownBy (W1.setCell ⟨wr.heap.size,0,none⟩ (.int .u8 (u:Int))) none):=hid (grown_set HG.out (.inl (Nat.le_refl _)) _)
   have hkL:∀ i,i<k→1+i/8<L:=fun i hi=>by omega
   have HKL:=hid hkL
   clear hrow hW1 hL hu hk hkL
   go_wp2
   obtain ⟨w2,hw2⟩:∃ w2,w2=W1.setCell ⟨wr.heap.size,0,none⟩ (.int .u8 (u:Int)):=⟨_,rfl⟩
   rw[←hw2] at HR0 HG0 ⊢
   obtain ⟨wo,hwo⟩:∃ wo:World,wo=wr:=⟨_,rfl⟩
   rw[←hwo] at HR0 HG0 ⊢
   have HWo:=hid hwo
   clear hw2 hmk x0 y0 hwo HG hLI huI
   go_loopw [6] (fun i wr=>∃ j:Nat,j≤k∧i=.int .i64 (j:Int)∧wr.heap[wo.heap.size]?=some (.cells (Pt.rowV L u m j) 5 (0,0))∧wo.grownBy wr none) (fun i _=>k-(intOf i).toNat)
   case atStart=>exact ⟨0,Nat.zero_le _,rfl,HR0.out,HG0.out⟩
   case round =>
    obtain ⟨j,hj,rfl,hr,hg⟩:=hrel
    have HR:=hid hr
    have HGr:=hid hg
    clear hg
    by_cases hlt:j<k
    ·have hq:=HKL.out j hlt
     have hb:=HB.out j
     by_cases h1:m/2 ^ j%2=1
     ·rw[h1] at hb
      have hb:((m:Int)/2 ^ j).tmod 2=1:=hb
      have hb':((m:Int)/2 ^ j)%2=1:=by rw[shr_nat',h1];rfl
      have hat:=Pt.rowV_at (L:=L) (u:=u) (m:=m) (i:=j) hq hL3
      have hroom:=Pt.row_room (u:=u) hm (show j<15 by omega) (by omega) h1
      have HSt:=hid (Pt.rowV_step (L:=L) (u:=u) hm (show j<15 by omega) h1)
      have hd:=Pt.shr128 ⟨j%8,Nat.mod_lt _ (by decide)⟩
      simp only at hd
      obtain ⟨r,hrr⟩:∃ r,r=j%8:=⟨_,rfl⟩
      have hri:(j:Int)%8=(r:Int):=by omega
      have hr8:r<8:=by omega
      rw[←hrr] at hroom HSt hd
      obtain ⟨q,hqq⟩:∃ q,q=1+j/8:=⟨_,rfl⟩
      have hqi:(1:Int)+(j:Int)/8=(q:Int):=by omega
      rw[←hqq] at hq hat hroom HSt
      generalize (Pt.rowL u m j).getD q 0=x at *
      generalize 2 ^ (7-r)=d at *
      have x1:=cell_blk hr q hat
      have y1:=free_blk hr q
      clear hr hat hqq hrr h1
      have HE:Hid ((wr.setCell ⟨wo.heap.size,q,none⟩ (.int .u8 ((x:Int)+(d:Int)))).heap[wo.heap.size]?=some (.cells (Pt.rowV L u m (j+1)) 5 (0,0))):=hid (by
       rw[setCell_heap HR.out,←HSt.out,show (x:Int)+(d:Int)=((x+d:Nat):Int) by omega])
      have HGe:Hid (wo.grownBy (wr.setCell ⟨wo.heap.size,q,none⟩ (.int .u8 ((x:Int)+(d:Int)))) none):=hid (grown_set HGr.out (.inl (Nat.le_refl _)) _)
      go_wp2
      go_roundw
      case rel=>exact ⟨j+1,by omega,by go_num,HE.out,HGe.out⟩
      case measure=>simp[intOf];omega
     ·have hb:((m:Int)/2 ^ j).tmod 2=0:=by rw[hb,show m/2 ^ j%2=0 by omega];rfl
      have hb':((m:Int)/2 ^ j)%2=0:=by rw[shr_nat',show m/2 ^ j%2=0 by omega];rfl
      have HSt:=hid (Pt.rowV_stay (L:=L) (u:=u) hm (show j<15 by omega) h1)
      clear hr h1
      go_wp2
      go_roundw
      case rel=>exact ⟨j+1,by omega,by go_num,by rw[HSt.out];exact HR.out,HGr.out⟩
      case measure=>simp[intOf];omega
    ·obtain rfl:j=k:=by omega
     clear hr
     have HBy:Hid (Bytes wr (.slice (some ⟨wo.heap.size,0,none⟩) L L) (Pt.flags m)):=hid (by
      have hlen:((Pt.rowL u m j).take L).length=L:=by rw[List.length_take];simp[Pt.rowL];omega
      have:=Bytes.lit (w:=wr) (g:=wo.heap.size) (t:=5) (fr:=(0,0)) (l:=(Pt.rowL u m j).take L) (by rw[HR.out];rfl) (by rw[HEnd.out];exact Pt.flags_lt m hm)
      rw[hlen,HEnd.out] at this
      exact this)
     go_wp2
     go_ret
     rw[←HWo.out]
     exact ⟨_,rfl,HBy.out,HGr.out⟩
section
variable {P:Program}
theorem step_appV {w:World} {ops:Array Oper} {o:Oper} {a:Act} {K:Act→World→Prop} {Q:Exit→Act→World→Prop} {E:Prop} (hgd:o.guard=none) (s x:Operand) (t:TypeId)
  (ho:o.op=.call { callee:=.builtin .append,args:=#[s,x],argTypes:=#[t,t] })
  (base:Nat) (e:TypeId) (z:Value) (bytes:Nat) (ht:P.underlying t=some (.slice e)) (hi:(P.info? e).map (fun i=>(i.zero,i.size,i.bytes))=some (some z,1,bytes)) (hzs:z.cells.size=1) (hby:bytes≤64)
  (v:Value) (n:Nat) (xs:List Value) (hs:a.eval s=v) (hown:w.ownsRow base e 1 v n xs)
  (u:Value) (l:List Value) (hx:a.eval x=u) (hB:Vals w u l) (h0:Whole0 u) (h1:∀ y∈l,y.oneCell'=true)
  (h63:n+l.length≤1099511627776) (hbase:base≤w.heap.size)
  (h:∀ v' w',w'.ownsRow base e 1 v' (n+l.length) (xs++l)→w.grownBy w' v.ownBlock→K (a.put o.dst v') w'):if Region.wanted o (yielded ops a.tmps)=true then Oper.wp P o a w K Q else E:=by
 have hw:Region.wanted o (yielded ops a.tmps)=true:=by simp[Region.wanted,hgd]
 rw[if_pos hw]
 obtain ⟨i,h1',h2',h3',h4'⟩:=info_parts hi
 obtain ⟨ad,sb,so,c,rfl,hc,ha,hcell⟩:=hB
 match ad with
 |none =>
  obtain ⟨hn0,rfl⟩:=h0 _ _ rfl
  obtain rfl:=List.eq_nil_of_length_eq_zero hn0
  have hrun:=run_append_owned_none (P:=P) (w:=w) base t o.type e i 1 ht h1' v n xs hown
  have hx':a.eval x=.slice none 0 0:=hx
  have hK:=h v w (by simpa using hown) (grown_refl _ _)
  unfold Oper.wp
  simp[execOp,ho,resolve,invoke,builtin,hs,hx',hrun,Result.andThen]
  exact hK
 |some ad =>
  obtain ⟨v',w',hr,k1,k2,_⟩:=run_append_sharp (P:=P) w base t o.type e i z ht h1' h2' h3' hzs (by rw[h4'];exact hby) v n xs hown ad l.length c l rfl (fun j u' hj=>by
   have hjl:=(List.getElem?_eq_some_iff.1 hj).1
   obtain ⟨e1,_⟩:=ha (by omega)
   obtain rfl:=Option.some.inj e1
   rw[addr_addO,hcell j u' hj]) h1 h63 hbase
  unfold Oper.wp execOp
  simp only[ho,resolve,invoke,builtin,Sem.run_bind,Sem.run_pure,Result.andThen_ok,List.map_toArray,List.map_cons,List.map_nil,hs,hx,hr]
  exact h v' w' k1 k2
end
theorem cat_take (L:List (List Nat)) {j:Nat} (hj:j<L.length):(L.take (j+1)).flatten=(L.take j).flatten++L.getD j []:=by
 rw[Pt.sort_take L hj,List.flatten_append]
 simp
theorem Each.lt {w:World}:∀ {xs:List Value} {L:List (List Nat)},Each w xs L→∀ x∈L.flatten,x<256
 |[],[],_,x,hx=>by simp at hx
 |_ :: _,_ :: _,h,x,hx=>by
  rw[List.flatten_cons,List.mem_append] at hx
  rcases hx with hx|hx
  ·exact h.1.1.lt x hx
  ·exact h.2.lt x hx
end Go.Proofs.YtjjbkpjjmbfdhaaGreatDoor
