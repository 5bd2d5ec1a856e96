import Derived.WalkKit
import Derived.Deep.MidRow
import Derived.Deep.Draws
import Derived.OwnWalk
import Derived.Laws.AppendOwnNone
import Derived.Laws.BytesArg
import Derived.Lib.AppendStr
set_option linter.unusedVariables false
set_option linter.unusedSimpArgs false
namespace Go.Proofs.YtjjbkpjjmbfdhaaGreatDoor
namespace Sha
def rotr (x n:Nat):Nat:=(x*2 ^ (32-n)%4294967296) ||| (x/2 ^ n)
def high (x i j k:Nat):Nat:=rotr x i ^^^ rotr x j ^^^ rotr x k
def low (x i j k:Nat):Nat:=rotr x i ^^^ rotr x j ^^^ (x/2 ^ k)
def ch (e f g:Nat):Nat:=(e &&& f) ^^^ ((4294967295-e) &&& g)
def maj (a b c:Nat):Nat:=((a &&& b) ^^^ (a &&& c)) ^^^ (b &&& c)
structure St where
 a:Nat
 b:Nat
 c:Nat
 d:Nat
 e:Nat
 f:Nat
 g:Nat
 h:Nat
def St.ok (s:St):Prop:=s.a<4294967296∧s.b<4294967296∧s.c<4294967296∧s.d<4294967296∧s.e<4294967296∧s.f<4294967296∧s.g<4294967296∧s.h<4294967296
def t1 (s:St) (k w:Nat):Nat:=((((s.h+high s.e 6 11 25)%4294967296+ch s.e s.f s.g)%4294967296+k)%4294967296+w)%4294967296
def t2 (s:St):Nat:=(high s.a 2 13 22+maj s.a s.b s.c)%4294967296
def St.step (s:St) (k w:Nat):St:=⟨(t1 s k w+t2 s)%4294967296,s.a,s.b,s.c,(s.d+t1 s k w)%4294967296,s.e,s.f,s.g⟩
def St.run (ks ws:List Nat) (s:St):Nat→St
 |0=>s
 |n+1=>(St.run ks ws s n).step (ks.getD n 0) (ws.getD n 0)
def St.add (s r:St):St:=⟨(s.a+r.a)%4294967296,(s.b+r.b)%4294967296,(s.c+r.c)%4294967296,(s.d+r.d)%4294967296,(s.e+r.e)%4294967296,(s.f+r.f)%4294967296,(s.g+r.g)%4294967296,(s.h+r.h)%4294967296⟩
def nxt (l:List Nat):Nat:=(((l.getD (l.length-16) 0+low (l.getD (l.length-15) 0) 7 18 3)%4294967296+l.getD (l.length-7) 0)%4294967296+low (l.getD (l.length-2) 0) 17 19 10)%4294967296
def ext (l:List Nat):Nat→List Nat
 |0=>l
 |n+1=>ext l n++[nxt (ext l n)]
def word (b:List Nat) (i:Nat):Nat:=((b.getD (4*i) 0*16777216 ||| b.getD (4*i+1) 0*65536) ||| b.getD (4*i+2) 0*256) ||| b.getD (4*i+3) 0
def words (b:List Nat):Nat→List Nat
 |0=>[]
 |n+1=>words b n++[word b n]
def sched (b:List Nat):List Nat:=ext (words b 16) 48
def first:St:=⟨1779033703,3144134277,1013904242,2773480762,1359893119,2600822924,528734635,1541459225⟩
def ks:List Nat:=[1116352408,1899447441,3049323471,3921009573,961987163,1508970993,2453635748,2870763221,3624381080,310598401,607225278,1426881987,1925078388,2162078206,2614888103,3248222580,3835390401,4022224774,264347078,604807628,770255983,1249150122,1555081692,1996064986,2554220882,2821834349,2952996808,3210313671,3336571891,3584528711,113926993,338241895,666307205,773529912,1294757372,1396182291,1695183700,1986661051,2177026350,2456956037,2730485921,2820302411,3259730800,3345764771,3516065817,3600352804,4094571909,275423344,430227734,506948616,659060556,883997877,958139571,1322822218,1537002063,1747873779,1955562222,2024104815,2227730452,2361852424,2428436474,2756734187,3204031479,3329325298]
def comp (s:St) (b:List Nat):St:=s.add (s.run ks (sched b) 64)
structure HS where
 words:St
 blocks:Nat
 bytes:List Nat
 filled:Nat
structure HS.ok (s:HS):Prop where
 words:s.words.ok
 len:s.bytes.length=64
 lt:∀ x∈s.bytes,x<256
 filled:s.filled≤64
 blocks:s.blocks<1152921504606846976
def HS.base (s:HS):St:=if s.blocks=0 then first else s.words
def HS.room (s:HS) (l:List Nat):Nat:=min (64-s.filled) l.length
def HS.take (s:HS) (l:List Nat):HS:={ s with bytes:=s.bytes.take s.filled++(l.take (s.room l)++s.bytes.drop (s.filled+s.room l)),filled:=s.filled+s.room l }
theorem HS.room_le (s:HS) (l:List Nat):s.room l≤l.length:=Nat.min_le_right _ _
theorem HS.room_le' (s:HS) (l:List Nat):s.room l≤64-s.filled:=Nat.min_le_left _ _
theorem HS.take_ok {s:HS} (h:s.ok) {l:List Nat} (hl:∀ x∈l,x<256):(s.take l).ok:=by
 have h1:=s.room_le l;have h2:=s.room_le' l;have h3:=h.len;have h4:=h.filled
 refine ⟨h.words,?_,?_,?_,h.blocks⟩
 ·simp only[HS.take,List.length_append,List.length_take,List.length_drop,h3];omega
 ·intro x hx
  simp only[HS.take,List.mem_append] at hx
  rcases hx with hx|hx|hx
  ·exact h.lt x (List.mem_of_mem_take hx)
  ·exact hl x (List.mem_of_mem_take hx)
  ·exact h.lt x (List.mem_of_mem_drop hx)
 ·show s.filled+s.room l≤64;omega
end Sha
namespace Sha
def chainW (M:List Nat):Nat→St
 |0=>first
 |k+1=>comp (chainW M k) ((M.drop (64*k)).take 64)
theorem chainW_append (M x:List Nat):∀ k,64*k≤M.length→chainW (M++x) k=chainW M k
 |0,_=>rfl
 |k+1,h=>by
  rw[chainW,chainW,chainW_append M x k (by omega),List.drop_append_of_le_length (by omega),List.take_append_of_le_length (by simp;omega)]
structure Rep (s:HS) (M:List Nat):Prop where
 ok:s.ok
 filled:s.filled<64
 len:M.length=64*s.blocks+s.filled
 rest:s.bytes.take s.filled=M.drop (64*s.blocks)
 base:s.base=chainW M s.blocks
theorem take_filled {s:HS} (h:s.ok) (l:List Nat):(s.take l).bytes.take (s.take l).filled=s.bytes.take s.filled++l.take (s.room l):=by
 have h1:=s.room_le l;have h2:=s.room_le' l;have h3:=h.len;have h4:=h.filled
 have e1:(s.bytes.take s.filled).length=s.filled:=by rw[List.length_take];omega
 have e2:(l.take (s.room l)).length=s.room l:=by rw[List.length_take];omega
 show (s.bytes.take s.filled++(l.take (s.room l)++_)).take (s.filled+s.room l)=_
 rw[←List.append_assoc,List.take_append_of_le_length (by rw[List.length_append,e1,e2];omega),List.take_of_length_le (by rw[List.length_append,e1,e2];omega)]
theorem Rep.take {s:HS} {M:List Nat} (h:Rep s M) {l:List Nat} (hl:∀ x∈l,x<256) (hn:(s.take l).filled≠64):Rep (s.take l) (M++l.take (s.room l)):=by
 have h1:=s.room_le l;have h2:=s.room_le' l;have h3:=h.ok.len;have h4:=h.filled
 have hf:(s.take l).filled=s.filled+s.room l:=rfl
 have e2:(l.take (s.room l)).length=s.room l:=by rw[List.length_take];omega
 refine ⟨HS.take_ok h.ok hl,by omega,?_,?_,?_⟩
 ·rw[List.length_append,e2,h.len,hf];show _=64*s.blocks+_;omega
 ·rw[take_filled h.ok,h.rest]
  show _=List.drop (64*s.blocks) _
  rw[List.drop_append_of_le_length (by rw[h.len];omega)]
 ·show s.base=chainW _ s.blocks
  rw[chainW_append _ _ _ (by rw[h.len];omega)];exact h.base
end Sha
namespace Sha
end Sha
end Go.Proofs.YtjjbkpjjmbfdhaaGreatDoor
namespace Go.Proofs.YtjjbkpjjmbfdhaaGreatDoor
open Go.RowKit
theorem ret_int {k:IntKind} {a b:Int} (h:a=b):Ending.returned (.int k a)=.returned (.int k b):=by rw[h]
theorem cell_blk {w:World} {b:Nat} {cs:Array Value} {t:TypeId} {fr:Nat×Nat} (h:w.heap[b]?=some (.cells cs t fr)) (i:Nat) {v:Value} (hv:cs[i]?=some v):w.cell? ⟨b,i,none⟩=some v:=by
 simp[World.cell?,h,hv]
theorem free_blk {w:World} {b:Nat} {cs:Array Value} {t:TypeId} (h:w.heap[b]?=some (.cells cs t (0,0))) (i:Nat):w.frozen? ⟨b,i,none⟩=false:=by
 simp[World.frozen?,h]
theorem grown_refl (w:World) (row:Option Nat):w.grownBy w row:=⟨rfl,rfl,rfl,Nat.le_refl _,fun _ _ _=>rfl⟩
theorem grown_trans {a b c:World} {row:Option Nat} (h:a.grownBy b row) (k:b.grownBy c row):a.grownBy c row :=
 ⟨k.os.trans h.os,k.tape.trans h.tape,k.output.trans h.output,Nat.le_trans h.size k.size,fun i hi hne=>(k.block i (Nat.lt_of_lt_of_le hi h.size) hne).trans (h.block i hi hne)⟩
theorem grown_drewN {a b:World} {row:Option Nat} (h:a.grownBy b row) (n:Nat):a.grownBy (b.drewN n) row:=⟨h.os,h.tape,h.output,h.size,h.block⟩
theorem grown_alloc {a b:World} {row:Option Nat} (h:a.grownBy b row) (o:Obj):a.grownBy (b.alloc o) row:=grown_trans h (World.grownBy_alloc b o row)
theorem grown_forget {a b c:World} {g:Nat} (h:a.grownBy b none) (hg:a.heap.size≤g) (k:b.grownBy c (some g)):a.grownBy c none :=
 ⟨k.os.trans h.os,k.tape.trans h.tape,k.output.trans h.output,Nat.le_trans h.size k.size,fun i hi _=>(k.block i (Nat.lt_of_lt_of_le hi h.size) (by simp;omega)).trans (h.block i hi (by simp))⟩
theorem grown_set {w w':World} {row:Option Nat} (h:w.grownBy w' row) {p:Addr} (hp:w.heap.size≤p.block∨some p.block=row) (u:Value):w.grownBy (w'.setCell p u) row :=
 ⟨h.os,h.tape,h.output,by simpa [World.setCell] using h.size,fun k hk hne=>by
  rw[Below.heap_setCell _ _ _ _ (by rcases hp with hp|hp;(· omega);(· intro e;exact hne (by rw[e,hp])))];exact h.block k hk hne⟩
theorem grown_setCells {w:World} {row:Option Nat} (b:Nat) (hb:w.heap.size≤b∨some b=row) (vs:List Value):∀ (o:Nat) (w':World),w.grownBy w' row→w.grownBy (w'.setCells b o vs) row:=by
 induction vs with
 |nil=>intro o w' h;exact h
 |cons v r ih=>intro o w' h;exact ih (o+1) _ (grown_set h hb v)
theorem grown_setRow {w w':World} {row:Option Nat} (h:w.grownBy w' row) {g:Nat} (hg:w.heap.size≤g) (cs:Array Value):w.grownBy (w'.setRow g cs) row :=
 ⟨h.os,h.tape,h.output,by simpa using h.size,fun k hk hne=>by rw[setRow_other _ _ _ _ (by omega)];exact h.block k hk hne⟩
theorem setCell_heap {w:World} {b i:Nat} {cs:Array Value} {t:TypeId} {fr:Nat×Nat} (h:w.heap[b]?=some (.cells cs t fr)) (v:Value) :
  (w.setCell ⟨b,i,none⟩ v).heap[b]?=some (.cells (cs.setIfInBounds i v) t fr):=by
 simp[World.setCell,Array.getElem?_modify,h]
theorem setCell_size (w:World) (p:Addr) (v:Value):(w.setCell p v).heap.size=w.heap.size:=by simp[World.setCell]
theorem setCells_heap {b:Nat} {t:TypeId} {fr:Nat×Nat} (cs:List Value):∀ (pre mid post:List Value) (w:World),w.heap[b]?=some (.cells (pre++mid++post).toArray t fr)→mid.length=cs.length →
  (w.setCells b pre.length cs).heap[b]?=some (.cells (pre++cs++post).toArray t fr):=by
 induction cs with
 |nil=>intro pre mid post w h hl;obtain rfl:mid=[]:=List.eq_nil_of_length_eq_zero (by simpa using hl);exact h
 |cons v r ih =>
  intro pre mid post w h hl
  match mid,hl with
  |m :: mid',hl =>
   have h1:=setCell_heap (i:=pre.length) h v
   have e:(pre++(m :: mid')++post).toArray.setIfInBounds pre.length v=((pre++[v])++mid'++post).toArray:=by
    simp
   rw[e] at h1
   have:=ih (pre++[v]) mid' post _ h1 (by simpa using hl)
   simp only[List.length_append,List.length_singleton] at this
   rw[World.setCells,this]
   simp
theorem range_all {w:World} {b:Nat} {V:Array Value} {t:TypeId} {fr:Nat×Nat} (h:w.heap[b]?=some (.cells V t fr)):w.rangeAt b 0 V.toList:=fun j v hj =>
 cell_blk h _ (by simpa using hj)
theorem blk_lt {w:World} {b:Nat} {o:Obj} (h:w.heap[b]?=some o):b<w.heap.size:=(Array.getElem?_eq_some_iff.1 h).1
theorem alloc_at (w:World) (o:Obj):(w.alloc o).heap[w.heap.size]?=some o:=by
 show (w.heap.push o)[w.heap.size]?=some o
 simp
theorem alloc_old (w:World) (o:Obj) (k:Nat) (h:k<w.heap.size):(w.alloc o).heap[k]?=w.heap[k]?:=Below.heap_alloc w o k h
theorem alloc_size (w:World) (o:Obj):(w.alloc o).heap.size=w.heap.size+1:=by
 show (w.heap.push o).size=_
 simp
theorem alloc2_new (w:World) (o o':Obj):((w.alloc o).alloc o').heap[w.heap.size+1]?=some o':=by
 have:=alloc_at (w.alloc o) o'
 rwa [alloc_size] at this
theorem alloc2_old (w:World) (o o':Obj):((w.alloc o).alloc o').heap[w.heap.size]?=some o:=by
 rw[alloc_old _ _ _ (by rw[alloc_size];omega)];exact alloc_at w o
theorem alloc_keep {w:World} {o p:Obj} {g:Nat} (h:w.heap[g]?=some p):(w.alloc o).heap[g]?=some p:=by
 show (w.heap.push o)[g]?=_
 rw[Array.getElem?_push_lt (blk_lt h),←h,Array.getElem?_eq_getElem (blk_lt h)]
theorem alloc_at2 (w:World) (A B:Obj):((w.alloc A).alloc B).heap[w.heap.size+1]?=some B:=by
 have:=alloc_at (w.alloc A) B
 rwa [alloc_size] at this
def bytesV (ws:List Nat):Array Value:=(ws.map fun (x:Nat)=>Value.int .u8 (x:Int)).toArray
theorem bytesV_at (ws:List Nat) (i:Nat) (h:i<ws.length):(bytesV ws)[i]?=some (.int .u8 (ws.getD i 0:Nat)):=by
 simp[bytesV,h]
theorem bytesV_size (ws:List Nat):(bytesV ws).size=ws.length:=by simp[bytesV]
structure Bytes (w:World) (v:Value) (l:List Nat):Prop where
 lt:∀ x∈l,x<256
 at_:∃ (a:Option Addr) (sb so c:Nat),v=.slice a l.length c∧l.length≤c∧(0<l.length→a=some ⟨sb,so,none⟩∧sb<w.heap.size) ∧
  ∀ j,j<l.length→w.cell? ⟨sb,so+j,none⟩=some (.int .u8 (l.getD j 0:Nat))
theorem Bytes.grown {w w':World} {v:Value} {l:List Nat} (h:Bytes w v l) (hg:w.grownBy w' none):Bytes w' v l:=by
 obtain ⟨h1,a,sb,so,c,h2,h3,h4,h5⟩:=h
 exact ⟨h1,a,sb,so,c,h2,h3,fun h=>⟨(h4 h).1,Nat.lt_of_lt_of_le (h4 h).2 hg.size⟩,fun j hj=>by
  rw[World.cell?_of_block (hg.block sb (h4 (by omega)).2 (by simp))];exact h5 j hj⟩
section
variable {P:Program}
theorem grown_own {a b c:World} {base:Nat} {e:TypeId} {size:Nat} {v:Value} {n:Nat} {xs:List Value} (h:a.grownBy b none) (ho:b.ownsRow base e size v n xs) (hb:a.heap.size≤base) (k:b.grownBy c v.ownBlock):a.grownBy c none :=
 ⟨k.os.trans h.os,k.tape.trans h.tape,k.output.trans h.output,Nat.le_trans h.size k.size,fun i hi _=>(k.block i (Nat.lt_of_lt_of_le hi h.size) (fun e=>by have:=(ho.lt _ e.symm).1;omega)).trans (h.block i hi (by simp))⟩
theorem wpList_app1 {w:World} {ops:Array Oper} {rest:List Oper} {o:Oper} {a:Act} {Q:Exit→Act→World→Prop} (hgd:o.guard=none) (s x:Operand) (t:TypeId)
  (ho:o.op=.call { callee:=.builtin .append,args:=#[s,x],argTypes:=#[t,t] })
  (base:Nat) (e:TypeId) (z:Value) (bytes:Nat) (ht:P.underlying t=some (.slice e)) (hi:(P.info? e).map (fun i=>(i.zero,i.size,i.bytes))=some (some z,1,bytes)) (hzs:z.cells.size=1) (hby:bytes≤64)
  (v:Value) (n:Nat) (xs:List Value) (hs:a.eval s=v) (hown:w.ownsRow base e 1 v n xs)
  (ad:Addr) (u:Value) (hx:a.eval x=.slice (some ad) 1 1) (hu:w.cell? ad=some u) (h1:u.oneCell'=true)
  (h63:n<1099511627776) (hbase:base≤w.heap.size)
  (h:∀ v' w',w'.ownsRow base e 1 v' (n+1) (xs++[u])→w.grownBy w' v.ownBlock→wpList P ops Q rest (a.put o.dst v') w'):wpList P ops Q (o :: rest) a w:=by
 obtain ⟨i,h1',h2',h3',h4'⟩:=info_parts hi
 refine wpList_append_own w hgd s x t ho base e i z 1 bytes ht h1' h2' h3' h4' hzs (by decide) v n xs hs hown ad 1 1 [u] hx rfl ?_ ?_ ?_ ?_ hbase (fun v' w' a1 a2 _=>h v' w' a1 a2)
 ·intro j u' hj
  match j,hj with
  |0,hj =>
   simp at hj
   subst hj
   simpa [Addr.add] using hu
 ·intro u' hu'
  simp at hu'
  subst hu'
  exact h1
 ·unfold maxLen;omega
 ·exact Nat.le_trans (Nat.mul_le_mul_left _ hby) (by omega)
theorem ownsRow_empty (w:World) (base:Nat) (e:TypeId):w.ownsRow base e 1 (.slice none 0 0) 0 []:=⟨rfl,.inl ⟨rfl,rfl⟩⟩
theorem ownsRow_lit {w:World} {base g:Nat} {e:TypeId} {cs:Array Value} (h:w.heap[g]?=some (.cells cs e (0,0))) (hb:base≤g) (hl:cs.size≤1099511627776):w.ownsRow base e 1 (.slice (some ⟨g,0,none⟩) cs.size cs.size) cs.size cs.toList :=
 ⟨by simp,.inr ⟨g,cs.size,cs,rfl,hb,h,Nat.le_refl _,by unfold maxLen;omega,by simp,by rw[Nat.mul_one,List.take_of_length_le (by simp)]⟩⟩
theorem ownsRow_form {w:World} {base:Nat} {e:TypeId} {v:Value} {n:Nat} {xs:List Value} (h:w.ownsRow base e 1 v n xs):∃ (a:Option Addr) (g c:Nat),v=.slice a n c∧n≤c∧c≤maxLen∧(0<n→a=some ⟨g,0,none⟩∧base≤g∧g<w.heap.size)∧∀ j,j<n→w.cell? ⟨g,j,none⟩=xs[j]?:=by
 obtain ⟨h1,h2⟩:=h
 rcases h2 with ⟨rfl,rfl⟩|⟨g,cap,cur,rfl,hb,hg,hn,hc,hs,ht⟩
 ·exact ⟨none,0,0,rfl,Nat.le_refl _,Nat.zero_le _,fun h=>absurd h (by decide),fun j hj=>absurd hj (by omega)⟩
 ·refine ⟨_,g,cap,rfl,hn,hc,fun _=>⟨rfl,hb,blk_lt hg⟩,fun j hj=>?_⟩
  rw[←ht,List.getElem?_take,if_pos (by omega)]
  have:j<cur.size:=by omega
  simp[World.cell?,hg]
end
def cellsL (l:List Nat):List Value:=l.map fun (x:Nat)=>Value.int .u8 (x:Int)
theorem cellsL_len (l:List Nat):(cellsL l).length=l.length:=by simp[cellsL]
theorem cellsL_one (l:List Nat):∀ u∈cellsL l,u.oneCell'=true:=by
 intro u hu
 simp only[cellsL,List.mem_map] at hu
 obtain ⟨x,_,rfl⟩:=hu
 rfl
theorem cellsL_append (a b:List Nat):cellsL (a++b)=cellsL a++cellsL b:=by simp[cellsL]
theorem cellsL_at (l:List Nat) (j:Nat) (h:j<l.length):(cellsL l)[j]?=some (.int .u8 (l.getD j 0:Nat)):=by simp[cellsL,h]
def strL (s:ByteArray):List Nat:=s.data.toList.map (·.toNat)
def strOf (l:List Nat):ByteArray:=⟨(l.map UInt8.ofNat).toArray⟩
theorem strL_len (s:ByteArray):(strL s).length=s.size:=by rw[strL,List.length_map,Array.length_toList];rfl
theorem strL_lt (s:ByteArray):∀ x∈strL s,x<256:=by
 intro x hx
 simp only[strL,List.mem_map] at hx
 obtain ⟨b,_,rfl⟩:=hx
 exact b.toNat_lt
theorem strL_getD (s:ByteArray) (i:Nat) (h:i<s.size):(s[i]'h).toNat=(strL s).getD i 0:=by
 have h':i<s.data.size:=h
 have e:s[i]'h=s.data[i]'h':=rfl
 rw[e,List.getD_eq_getElem?_getD,strL,List.getElem?_map,Array.getElem?_toList,Array.getElem?_eq_getElem h']
 rfl
theorem strOf_size (l:List Nat):(strOf l).size=l.length:=by rw[←strL_len,strL,List.length_map];simp[strOf]
theorem strL_strOf {l:List Nat} (h:∀ x∈l,x<256):strL (strOf l)=l:=by
 simp only[strL,strOf,List.map_map]
 conv=>rhs;rw[←List.map_id l]
 exact List.map_congr_left fun x hx=>by
  have:=h x hx
  simp
  omega
theorem strL_inj {s t:ByteArray} (h:strL s=strL t):s=t:=by
 obtain ⟨⟨a⟩⟩:=s
 obtain ⟨⟨b⟩⟩:=t
 simp only[strL] at h
 rw[List.map_inj_right (fun x y e=>UInt8.toNat_inj.1 e)] at h
 rw[h]
theorem strOf_strL (s:ByteArray):strOf (strL s)=s:=strL_inj (strL_strOf (strL_lt s))
theorem str_beq (s t:ByteArray):(s.toList==t.toList)=decide (strL s=strL t):=by
 rw[ByteArray.toList_eq,ByteArray.toList_eq,Bool.eq_iff_iff,beq_iff_eq,decide_eq_true_eq]
 simp only[strL]
 rw[List.map_inj_right (fun x y e=>UInt8.toNat_inj.1 e)]
theorem strOf_beq {a b:List Nat} (ha:∀ x∈a,x<256) (hb:∀ x∈b,x<256):((strOf a).toList==(strOf b).toList)=decide (a=b):=by
 rw[str_beq,strL_strOf ha,strL_strOf hb]
def Whole0 (v:Value):Prop:=∀ n c,v=.slice none n c→n=0∧c=0
section
variable {P:Program}
theorem conv_bytes {w:World} {v:Value} {l:List Nat} (h:Bytes w v l) (src e dst:TypeId) (hs:P.underlying src=some (.slice e)) (he:P.underlying e=some (.int .u8)) (hd:P.underlying dst=some .string) :
  (convert src dst v).run P w=.ok (.string (strOf l)) w:=by
 obtain ⟨h1,a,sb,so,c,rfl,hc,ha,hcell⟩:=h
 have e1:strOfNums (l.map fun (x:Nat)=>(x:Int))=strOf l:=by simp[strOfNums,strOf]
 rcases Nat.eq_zero_or_pos l.length with h0|h0
 ·obtain rfl:=List.eq_nil_of_length_eq_zero h0
  match a with
  |none=>rw[run_convert_bytes_nil w src e hs he _ _ dst hd];rfl
  |some ad =>
   have hl:(loadCells ad 0).run P w=.ok (([]:List Int).map (Value.int .u8)).toArray w:=by
    have:=run_loadCells_list (P:=P) w ad [] (by simp)
    simpa using this
   rw[run_convert_bytes_string w src dst e _ _ c hs he hd]
   exact run_bytesToString w ad 0 c [] hl
 ·obtain ⟨rfl,_⟩:=ha h0
  rw[←e1]
  exact run_convert_bytes_arg w src e hs he sb so l.length c _ (by simp) (fun i hi=>by rw[hcell i hi];simp[hi]) dst hd
theorem addr_addO (g o j:Nat):(⟨g,o,none⟩:Addr).add j=⟨g,o+j,none⟩:=by
 unfold Addr.add
 split <;> simp_all
theorem wpList_appB {w:World} {ops:Array Oper} {rest:List Oper} {o:Oper} {a:Act} {Q:Exit→Act→World→Prop} (hgd:o.guard=none) (s x:Operand) (t:TypeId)
  (ho:o.op=.call { callee:=.builtin .append,args:=#[s,x],argTypes:=#[t,t] })
  (base:Nat) (e:TypeId) (z:Value) (bytes:Nat) (ht:P.underlying t=some (.slice e)) (hi:(P.info? e).map (fun i=>(i.zero,i.size,i.bytes))=some (some z,1,bytes)) (hzs:z.cells.size=1) (hby:bytes≤64)
  (v:Value) (n:Nat) (xs:List Value) (hs:a.eval s=v) (hown:w.ownsRow base e 1 v n xs)
  (u:Value) (l:List Nat) (hx:a.eval x=u) (hB:Bytes w u l) (h0:Whole0 u)
  (h63:n+l.length≤1099511627776) (hbase:base≤w.heap.size)
  (h:∀ v' w',w'.ownsRow base e 1 v' (n+l.length) (xs++cellsL l)→w.grownBy w' v.ownBlock→wpList P ops Q rest (a.put o.dst v') w'):wpList P ops Q (o :: rest) a w:=by
 obtain ⟨i,h1',h2',h3',h4'⟩:=info_parts hi
 obtain ⟨hl,ad,sb,so,c,rfl,hc,ha,hcell⟩:=hB
 match ad with
 |none =>
  obtain ⟨hn0,rfl⟩:=h0 _ _ rfl
  obtain rfl:=List.eq_nil_of_length_eq_zero hn0
  refine wpList_append_own_none hgd s x t ho base e i 1 ht h1' v n xs hs hown hx (h v w ?_ (grown_refl _ _))
  simpa [cellsL] using hown
 |some ad =>
  refine wpList_append_own w hgd s x t ho base e i z 1 bytes ht h1' h2' h3' h4' hzs (by decide) v n xs hs hown ad l.length c (cellsL l) hx (by simp[cellsL]) ?_ (cellsL_one l) ?_ ?_ hbase (fun v' w' a1 a2 _=>h v' w' a1 a2)
  ·intro j u' hj
   have hjl:j<l.length:=by
    have:=(List.getElem?_eq_some_iff.1 hj).1
    simpa [cellsL] using this
   obtain ⟨e1,_⟩:=ha (by omega)
   obtain rfl:=Option.some.inj e1
   rw[addr_addO,hcell j hjl,←cellsL_at l j hjl,hj]
  ·unfold maxLen;omega
  ·exact Nat.le_trans (Nat.mul_le_mul_left _ hby) (by omega)
theorem Bytes.lit {w:World} {g:Nat} {t:TypeId} {fr:Nat×Nat} {l:List Nat} (h:w.heap[g]?=some (.cells (cellsL l).toArray t fr)) (hl:∀ x∈l,x<256):Bytes w (.slice (some ⟨g,0,none⟩) l.length l.length) l :=
 ⟨hl,_,g,0,_,rfl,Nat.le_refl _,fun _=>⟨rfl,blk_lt h⟩,fun j hj=>by rw[Nat.zero_add];exact cell_blk h j (by rw[List.getElem?_toArray];exact cellsL_at l j hj)⟩
theorem Whole0.some (a:Addr) (n c:Nat):Whole0 (.slice (some a) n c):=fun _ _ e=>by cases e
theorem Bytes.own {w:World} {base:Nat} {e:TypeId} {v:Value} {n:Nat} {l:List Nat} (h:w.ownsRow base e 1 v n (cellsL l)) (hl:∀ x∈l,x<256):Bytes w v l:=by
 obtain ⟨a,g,c,rfl,h1,h2,h3,h4⟩:=ownsRow_form h
 have hn:n=l.length:=by have:=h.1;simpa [cellsL] using this.symm
 subst hn
 exact ⟨hl,a,g,0,c,rfl,h1,fun h=>⟨(h3 h).1,(h3 h).2.2⟩,fun j hj=>by rw[Nat.zero_add,h4 j hj];exact cellsL_at l j hj⟩
theorem Whole0.own {w:World} {base:Nat} {e:TypeId} {v:Value} {n:Nat} {xs:List Value} (h:w.ownsRow base e 1 v n xs):Whole0 v:=by
 intro n' c e
 rcases h.2 with ⟨rfl,rfl⟩|⟨g,cap,cur,rfl,_⟩
 ·cases e;exact ⟨rfl,rfl⟩
 ·cases e
end
section
variable {P:Program}
theorem run_append_sharp (w:World) (base:Nat) (t ty e:TypeId) (i:TypeInfo) (z:Value) (ht:P.underlying t=some (.slice e)) (hi:P.info? e=some i) (hz:i.zero=some z) (hsize:i.size=1) (hzs:z.cells.size=1) (hby:i.bytes≤64)
  (v:Value) (n:Nat) (xs:List Value) (hown:w.ownsRow base e 1 v n xs) (a:Addr) (m c:Nat) (news:List Value) (hl:news.length=m) (hnews:∀ j u,news[j]?=some u→w.cell? (a.add j)=some u) (h1:∀ u∈news,u.oneCell'=true)
  (h63:n+m≤1099511627776) (hbase:base≤w.heap.size) :
  ∃ v' w',(Builtin.append_ #[t,t] ty #[v,.slice (some a) m c]).run P w=.ok v' w'∧w'.ownsRow base e 1 v' (n+m) (xs++news)∧w.grownBy w' v.ownBlock∧(v'.ownBlock=v.ownBlock∨v'.ownBlock=some w.heap.size):=by
 have hmax:n+m≤maxLen:=by unfold maxLen;omega
 have hbytes:(n+m)*i.bytes≤140737488355328:=Nat.le_trans (Nat.mul_le_mul_left _ hby) (by omega)
 obtain ⟨v',w',hr,h2,h3,h4⟩:=run_append_own (P:=P) w base t ty e i z 1 i.bytes ht hi hz hsize rfl hzs (by decide) v n xs hown a m c news (by omega) hnews h1 hmax hbytes hbase
 refine ⟨v',w',hr,h2,h3,?_⟩
 rcases hown.2 with ⟨rfl,rfl⟩|⟨g,cap,cur,rfl,hbg,hg,hnc,hcm,hcs,htake⟩
 ·rcases Nat.eq_zero_or_pos m with hm|hm
  ·rw[h4.2 ⟨rfl,hm⟩];exact .inl rfl
  ·have:=run_append_nil (P:=P) w t ty e i z ht hi hz a m c news (by rw[hsize];omega) hnews hm (by omega) (by simp only[Nat.zero_add] at hbytes;omega)
   rw[this] at hr
   cases hr
   exact .inr rfl
 ·by_cases hroom:n+m≤cap
  ·have:=run_append_room (P:=P) w t ty e i ht hi g n cap cur hg a m c news (by rw[hsize];omega) hnews h1 hroom (by rw[hsize];omega)
   rw[this] at hr
   cases hr
   exact .inl rfl
  ·have:=run_append_grow (P:=P) w t ty e i z ht hi hz ⟨g,0,none⟩ n cap xs (by rw[hsize];exact hown.1) (hown.cells (g:=g) rfl) a m c news (by rw[hsize];omega) hnews (by omega) (by omega) (growslice_fits (by omega) hbytes)
   rw[this] at hr
   cases hr
   exact .inr rfl
theorem wpList_appB2 {w:World} {ops:Array Oper} {rest:List Oper} {o:Oper} {a:Act} {Q:Exit→Act→World→Prop} (hgd:o.guard=none) (s x:Operand) (t:TypeId)
  (ho:o.op=.call { callee:=.builtin .append,args:=#[s,x],argTypes:=#[t,t] })
  (base:Nat) (e:TypeId) (z:Value) (bytes:Nat) (ht:P.underlying t=some (.slice e)) (hi:(P.info? e).map (fun i=>(i.zero,i.size,i.bytes))=some (some z,1,bytes)) (hzs:z.cells.size=1) (hby:bytes≤64)
  (v:Value) (n:Nat) (xs:List Value) (hs:a.eval s=v) (hown:w.ownsRow base e 1 v n xs)
  (u:Value) (l:List Nat) (hx:a.eval x=u) (hB:Bytes w u l) (h0:Whole0 u)
  (h63:n+l.length≤1099511627776) (hbase:base≤w.heap.size)
  (h:∀ v' w',w'.ownsRow base e 1 v' (n+l.length) (xs++cellsL l)→w.grownBy w' v.ownBlock→(v'.ownBlock=v.ownBlock∨v'.ownBlock=some w.heap.size)→wpList P ops Q rest (a.put o.dst v') w'):wpList P ops Q (o :: rest) a w:=by
 obtain ⟨i,h1',h2',h3',h4'⟩:=info_parts hi
 obtain ⟨hl,ad,sb,so,c,rfl,hc,ha,hcell⟩:=hB
 match ad with
 |none =>
  obtain ⟨hn0,rfl⟩:=h0 _ _ rfl
  obtain rfl:=List.eq_nil_of_length_eq_zero hn0
  refine wpList_append_own_none hgd s x t ho base e i 1 ht h1' v n xs hs hown hx (h v w ?_ (grown_refl _ _) (.inl rfl))
  simpa [cellsL] using hown
 |some ad =>
  obtain ⟨v',w',hr,k1,k2,k3⟩:=run_append_sharp (P:=P) w base t o.type e i z ht h1' h2' h3' hzs (by rw[h4'];exact hby) v n xs hown ad l.length c (cellsL l) (by simp[cellsL]) (fun j u' hj=>by
   have hjl:j<l.length:=by
    have:=(List.getElem?_eq_some_iff.1 hj).1
    simpa [cellsL] using this
   obtain ⟨e1,_⟩:=ha (by omega)
   obtain rfl:=Option.some.inj e1
   rw[addr_addO,hcell j hjl,←cellsL_at l j hjl,hj]) (cellsL_one l) h63 hbase
  refine wpList_plain hgd fun K hK=>?_
  unfold Oper.wp execOp
  simp only[ho,resolve,invoke,builtin,Sem.run_bind,Sem.run_pure,Result.andThen_ok,List.map_toArray,List.map_cons,List.map_nil,hs,hx,hr]
  exact hK _ _ (h v' w' k1 k2 k3)
end
section
variable {P:Program}
theorem run_append_sharpN (w:World) (base:Nat) (t ty e:TypeId) (i:TypeInfo) (z:Value) (size:Nat) (ht:P.underlying t=some (.slice e)) (hi:P.info? e=some i) (hz:i.zero=some z) (hsize:i.size=size) (hzs:z.cells.size=size) (hsz:0<size) (hby:i.bytes≤64)
  (v:Value) (n:Nat) (xs:List Value) (hown:w.ownsRow base e size v n xs) (a:Addr) (m c:Nat) (news:List Value) (hl:news.length=m*size) (hnews:∀ j u,news[j]?=some u→w.cell? (a.add j)=some u) (h1:∀ u∈news,u.oneCell'=true)
  (h63:n+m≤1099511627776) (hbase:base≤w.heap.size) :
  ∃ v' w',(Builtin.append_ #[t,t] ty #[v,.slice (some a) m c]).run P w=.ok v' w'∧w'.ownsRow base e size v' (n+m) (xs++news)∧w.grownBy w' v.ownBlock∧(v'.ownBlock=v.ownBlock∨v'.ownBlock=some w.heap.size):=by
 have hmax:n+m≤maxLen:=by unfold maxLen;omega
 have hbytes:(n+m)*i.bytes≤140737488355328:=Nat.le_trans (Nat.mul_le_mul_left _ hby) (by omega)
 obtain ⟨v',w',hr,h2,h3,h4⟩:=run_append_own (P:=P) w base t ty e i z size i.bytes ht hi hz hsize rfl hzs hsz v n xs hown a m c news hl hnews h1 hmax hbytes hbase
 refine ⟨v',w',hr,h2,h3,?_⟩
 subst hsize
 rcases hown.2 with ⟨rfl,rfl⟩|⟨g,cap,cur,rfl,hbg,hg,hnc,hcm,hcs,htake⟩
 ·rcases Nat.eq_zero_or_pos m with hm|hm
  ·rw[h4.2 ⟨rfl,hm⟩];exact .inl rfl
  ·have:=run_append_nil (P:=P) w t ty e i z ht hi hz a m c news hl hnews hm (by omega) (by simp only[Nat.zero_add] at hbytes;omega)
   rw[this] at hr
   cases hr
   exact .inr rfl
 ·by_cases hroom:n+m≤cap
  ·have:=run_append_room (P:=P) w t ty e i ht hi g n cap cur hg a m c news hl hnews h1 hroom (by rw[hl,hcs,←Nat.add_mul];exact Nat.mul_le_mul_right _ hroom)
   rw[this] at hr
   cases hr
   exact .inl rfl
  ·have:=run_append_grow (P:=P) w t ty e i z ht hi hz ⟨g,0,none⟩ n cap xs hown.1 (hown.cells (g:=g) rfl) a m c news hl hnews (by omega) (by omega) (growslice_fits (by omega) hbytes)
   rw[this] at hr
   cases hr
   exact .inr rfl
theorem wpList_appN2 {w:World} {ops:Array Oper} {rest:List Oper} {o:Oper} {a:Act} {Q:Exit→Act→World→Prop} (hgd:o.guard=none) (s x:Operand) (t:TypeId)
  (ho:o.op=.call { callee:=.builtin .append,args:=#[s,x],argTypes:=#[t,t] })
  (base:Nat) (e:TypeId) (z:Value) (size bytes:Nat) (ht:P.underlying t=some (.slice e)) (hi:(P.info? e).map (fun i=>(i.zero,i.size,i.bytes))=some (some z,size,bytes)) (hzs:z.cells.size=size) (hsz:0<size) (hby:bytes≤64)
  (v:Value) (n:Nat) (xs:List Value) (hs:a.eval s=v) (hown:w.ownsRow base e size v n xs)
  (ad:Addr) (m c:Nat) (news:List Value) (hx:a.eval x=.slice (some ad) m c) (hl:news.length=m*size) (hnews:∀ j u,news[j]?=some u→w.cell? (ad.add j)=some u) (h1:∀ u∈news,u.oneCell'=true)
  (h63:n+m≤1099511627776) (hbase:base≤w.heap.size)
  (h:∀ v' w',w'.ownsRow base e size v' (n+m) (xs++news)→w.grownBy w' v.ownBlock→(v'.ownBlock=v.ownBlock∨v'.ownBlock=some w.heap.size)→wpList P ops Q rest (a.put o.dst v') w'):wpList P ops Q (o :: rest) a w:=by
 obtain ⟨i,h1',h2',h3',h4'⟩:=info_parts hi
 obtain ⟨v',w',hr,k1,k2,k3⟩:=run_append_sharpN (P:=P) w base t o.type e i z size ht h1' h2' h3' hzs hsz (by rw[h4'];exact hby) v n xs hown ad m c news hl hnews h1 h63 hbase
 refine wpList_plain hgd fun K hK=>?_
 unfold Oper.wp execOp
 simp only[ho,resolve,invoke,builtin,Sem.run_bind,Sem.run_pure,Result.andThen_ok,List.map_toArray,List.map_cons,List.map_nil,hs,hx,hr]
 exact hK _ _ (h v' w' k1 k2 k3)
end
theorem rows_unlike {w:World} {b1 b2:Nat} {e1 e2:TypeId} {s1 s2:Nat} {v u:Value} {n m:Nat} {xs ys:List Value} (h:w.ownsRow b1 e1 s1 v n xs) (h':w.ownsRow b2 e2 s2 u m ys) (he:e1≠e2) {k:Nat} (hk:v.ownBlock=some k):u.ownBlock≠some k:=fun hu=>by
 rcases h.2 with ⟨h1,_⟩|⟨g,_,_,h1,_,h2,_⟩
 ·rw[h1] at hk;exact absurd hk (by simp[Value.ownBlock])
 ·rcases h'.2 with ⟨k1,_⟩|⟨g',_,_,k1,_,k2,_⟩
  ·rw[k1] at hu;exact absurd hu (by simp[Value.ownBlock])
  ·rw[h1] at hk
   rw[k1] at hu
   obtain rfl:g=k:=Option.some.inj hk
   obtain rfl:g'=g:=Option.some.inj hu
   rw[h2] at k2
   simp only[Option.some.injEq,Obj.cells.injEq] at k2
   exact he k2.2.1
theorem own_lt {w:World} {base:Nat} {e:TypeId} {sz:Nat} {v:Value} {n:Nat} {xs:List Value} (h:w.ownsRow base e sz v n xs) {k:Nat} (hk:v.ownBlock=some k):k<w.heap.size:=(h.lt k hk).2
theorem own_formN {w:World} {base:Nat} {e:TypeId} {sz:Nat} {v:Value} {n:Nat} {xs:List Value} (h:w.ownsRow base e sz v n xs):∃ (a:Option Addr) (g c:Nat),v=.slice a n c∧n≤c∧c≤maxLen∧(a=none→n=0∧c=0)∧(∀ p,a=some p→p=⟨g,0,none⟩)∧(0<n→a=some ⟨g,0,none⟩∧g<w.heap.size∧(∀ j u,xs[j]?=some u→w.cell? ⟨g,j,none⟩=some u)∧∀ j,w.frozen? ⟨g,j,none⟩=false):=by
 rcases h.2 with ⟨rfl,rfl⟩|⟨g,cap,cur,rfl,_,hg,hc,hm,hs,ht⟩
 ·exact ⟨none,0,0,rfl,Nat.le_refl _,by unfold maxLen;omega,fun _=>⟨rfl,rfl⟩,(fun _ h=>by cases h),fun h=>absurd h (Nat.lt_irrefl _)⟩
 ·refine ⟨some ⟨g,0,none⟩,g,cap,rfl,hc,hm,(fun h=>by cases h),fun p h=>(Option.some.inj h).symm,fun _=>⟨rfl,blk_lt hg,fun j u hj=>?_,fun j=>free_blk hg j⟩⟩
  have:=h.cells (g:=g) rfl j u hj
  rwa [addr_addO,Nat.zero_add] at this
theorem own_take {w:World} {base:Nat} {e:TypeId} {sz g n c:Nat} {xs:List Value} (h:w.ownsRow base e sz (.slice (some ⟨g,0,none⟩) n c) n xs) {k:Nat} (hk:k≤n):w.ownsRow base e sz (.slice (some ⟨g,0,none⟩) k c) k (xs.take (k*sz)):=by
 have hmul:k*sz≤n*sz:=Nat.mul_le_mul_right _ hk
 refine ⟨by rw[List.length_take,h.1];omega,?_⟩
 rcases h.2 with ⟨h1,_⟩|⟨g',cap,cur,h1,h2,h3,h4,h5,h6,h7⟩
 ·exact absurd h1 (by simp)
 ·simp only[Value.slice.injEq,Option.some.injEq,Addr.mk.injEq,and_true,true_and] at h1
  obtain ⟨rfl,rfl⟩:=h1
  exact .inr ⟨g,c,cur,rfl,h2,h3,by omega,h5,h6,by rw[←h7,List.take_take,Nat.min_eq_left hmul]⟩
theorem own_putN {w:World} {base:Nat} {e:TypeId} {sz g n c:Nat} {xs:List Value} (h:w.ownsRow base e sz (.slice (some ⟨g,0,none⟩) n c) n xs) {K:Nat} (u:Value) :
  (w.setCell ⟨g,K,none⟩ u).ownsRow base e sz (.slice (some ⟨g,0,none⟩) n c) n (xs.set K u):=by
 refine ⟨by simpa using h.1,?_⟩
 rcases h.2 with ⟨h1,_⟩|⟨g',cap,cur,h1,h2,h3,h4,h5,h6,h7⟩
 ·exact absurd h1 (by simp)
 ·simp only[Value.slice.injEq,Option.some.injEq,Addr.mk.injEq,and_true,true_and] at h1
  obtain ⟨rfl,rfl⟩:=h1
  refine .inr ⟨g,c,cur.setIfInBounds K u,rfl,h2,setCell_heap h3 u,h4,h5,by simpa using h6,?_⟩
  rw[Array.toList_setIfInBounds,List.take_set,h7]
def RowV (w:World) (u:Value) (size n:Nat) (xs:List Value):Prop :=
 xs.length=n*size∧∃ (a:Option Addr) (g o c:Nat),u=.slice a n c∧(0<n→a=some ⟨g,o,none⟩∧g<w.heap.size)∧∀ j v,xs[j]?=some v→w.cell? ⟨g,o+j,none⟩=some v
theorem RowV.grown {w w':World} {u:Value} {size n:Nat} {xs:List Value} (h:RowV w u size n xs) (hg:w.grownBy w' none):RowV w' u size n xs:=by
 obtain ⟨hl,a,g,o,c,rfl,h2,h3⟩:=h
 refine ⟨hl,a,g,o,c,rfl,fun hn=>⟨(h2 hn).1,Nat.lt_of_lt_of_le (h2 hn).2 hg.size⟩,fun j v hj=>?_⟩
 have hn:0<n:=by
  rcases Nat.eq_zero_or_pos n with h0|h0
  ·subst h0
   have:=(List.getElem?_eq_some_iff.1 hj).1
   omega
  ·exact h0
 rw[World.cell?_of_block (hg.block g (h2 hn).2 (by simp))]
 exact h3 j v hj
section
variable {P:Program}
theorem run_appN3 {w:World} {t ty e:TypeId} (base:Nat) (z:Value) (size bytes:Nat) (ht:P.underlying t=some (.slice e)) (hi:(P.info? e).map (fun i=>(i.zero,i.size,i.bytes))=some (some z,size,bytes)) (hzs:z.cells.size=size) (hsz:0<size) (hby:bytes≤64)
  (v:Value) (n:Nat) (xs:List Value) (hown:w.ownsRow base e size v n xs) (u:Value) (m:Nat) (news:List Value) (hB:RowV w u size m news) (h0:Whole0 u) (h1:∀ y∈news,y.oneCell'=true)
  (h63:n+m≤1099511627776) (hbase:base≤w.heap.size) :
  ∃ v' w',(Builtin.append_ #[t,t] ty #[v,u]).run P w=.ok v' w'∧w'.ownsRow base e size v' (n+m) (xs++news)∧w.grownBy w' v.ownBlock∧(v'.ownBlock=v.ownBlock∨v'.ownBlock=some w.heap.size):=by
 obtain ⟨i,h1',h2',h3',h4'⟩:=info_parts hi
 obtain ⟨hl,ad,g,o,c,rfl,ha,hcell⟩:=hB
 match ad with
 |none =>
  obtain ⟨hn0,rfl⟩:=h0 _ _ rfl
  subst hn0
  obtain rfl:=List.eq_nil_of_length_eq_zero (by rw[hl,Nat.zero_mul])
  exact ⟨v,w,run_append_owned_none (P:=P) (w:=w) base t ty e i size ht h1' v n xs hown,by simpa using hown,grown_refl _ _,.inl rfl⟩
 |some ad =>
  refine run_append_sharpN (P:=P) w base t ty e i z size ht h1' h2' h3' hzs hsz (by rw[h4'];exact hby) v n xs hown ad m c news hl (fun j u' hj=>?_) h1 h63 hbase
  have hm:0<m:=by
   rcases Nat.eq_zero_or_pos m with h0|h0
   ·subst h0
    have:=(List.getElem?_eq_some_iff.1 hj).1
    omega
   ·exact h0
  obtain ⟨e1,_⟩:=ha hm
  obtain rfl:=Option.some.inj e1
  rw[addr_addO]
  exact hcell j u' hj
theorem wpList_appN3 {w:World} {ops:Array Oper} {rest:List Oper} {o:Oper} {a:Act} {Q:Exit→Act→World→Prop} (hgd:o.guard=none) (s x:Operand) (t:TypeId)
  (ho:o.op=.call { callee:=.builtin .append,args:=#[s,x],argTypes:=#[t,t] })
  (base:Nat) (e:TypeId) (z:Value) (size bytes:Nat) (ht:P.underlying t=some (.slice e)) (hi:(P.info? e).map (fun i=>(i.zero,i.size,i.bytes))=some (some z,size,bytes)) (hzs:z.cells.size=size) (hsz:0<size) (hby:bytes≤64)
  (v:Value) (n:Nat) (xs:List Value) (hs:a.eval s=v) (hown:w.ownsRow base e size v n xs)
  (u:Value) (m:Nat) (news:List Value) (hx:a.eval x=u) (hB:RowV w u size m news) (h0:Whole0 u) (h1:∀ y∈news,y.oneCell'=true)
  (h63:n+m≤1099511627776) (hbase:base≤w.heap.size)
  (h:∀ v' w',w'.ownsRow base e size v' (n+m) (xs++news)→w.grownBy w' v.ownBlock→(v'.ownBlock=v.ownBlock∨v'.ownBlock=some w.heap.size)→wpList P ops Q rest (a.put o.dst v') w'):wpList P ops Q (o :: rest) a w:=by
 obtain ⟨v',w',hr,k1,k2,k3⟩:=run_appN3 (P:=P) (ty:=o.type) base z size bytes ht hi hzs hsz hby v n xs hown u m news hB h0 h1 h63 hbase
 refine wpList_plain hgd fun K hK=>?_
 unfold Oper.wp execOp
 simp only[ho,resolve,invoke,builtin,Sem.run_bind,Sem.run_pure,Result.andThen_ok,List.map_toArray,List.map_cons,List.map_nil,hs,hx,hr]
 exact hK _ _ (h v' w' k1 k2 k3)
end
end Go.Proofs.YtjjbkpjjmbfdhaaGreatDoor
