import Derived.Test.YtijkaknggdaajaaGreatDoorZw10
import Derived.Test.YtijkaknggdaajaaGreatDoorZw14
set_option linter.unusedVariables false
set_option linter.unusedSimpArgs false
set_option maxRecDepth 100000
set_option maxHeartbeats 2000000
namespace Go.Proofs.YtijkaknggdaajaaGreatDoor
open Go.Proofs.Tryz
open Lib (hid)
namespace De
structure Val where
 kind:Int
 n:Int
 is:Bool
 b:List Nat
 t:List Nat
def none0:Val:=⟨0,0,false,[],[]⟩
def body (v:Val):Except Nat (Nat×List Nat) :=
 if v.kind=3 then .ok (2,Wh.body v.n)else if v.kind=4 then .ok (10,Wh.body v.n)else
 if v.kind=5 then .ok (1,[if v.is=true then 255 else 0])else if v.kind=6 then .ok (4,v.b)else
 if v.kind=7 then(if Pt.asked v.t v.n=0 then .ok (12,v.t)else .error (Pt.asked v.t v.n))else
 if v.kind=8 then(match Od.parse v.t with
  |.error e=>.error e
  |.ok l=>.ok (6,Od.put l))else
 if v.kind=9 then(if v.n<0∨253402300799<v.n then .error 1 else .ok (24,Cal.text (Cal.of v.n.toNat)))else
 if v.n<0∨32767<v.n then .error 1 else .ok (3,Pt.flags v.n.toNat)
def said (k least most:Int) (b:List Nat):Except Nat Val :=
 if k=3∨k=4 then(match Wh.get b with
  |.error e=>.error e
  |.ok n=>if n<least∨most<n then .error 1 else .ok { none0 with n:=n })else
 if k=5 then(if b.length=0 then .error 2 else if 1<b.length∨(b.getD 0 0≠0/\b.getD 0 0≠255)then .error 4 else .ok { none0 with is:=decide (b.getD 0 0=255) })else
 if k=6 then(if(b.length:Int)<least then .error 2 else if most<(b.length:Int)then .error 3 else .ok { none0 with b:=b })else
 if k=7 then(if Pt.asked b most=0 then .ok { none0 with t:=b } else .error (Pt.asked b most))else
 if k=8 then(match Od.get b with
  |.error e=>.error e
  |.ok l=>.ok { none0 with t:=Od.text l })else
 if k=9 then(match Cal.get b with
  |.error e=>.error e
  |.ok n=>.ok { none0 with n:=(n:Int) })else
 match Pt.mask b with
  |.error e=>.error e
  |.ok n=>.ok { none0 with n:=(n:Int) }
def I64 (n:Int):Prop:=-9223372036854775808<=n/\n<=9223372036854775807
structure St where
 e:Nat
 op:List (Nat×List (List Nat))
 dn:List (List Nat)
def St.zero:St:=⟨0,[],[]⟩
def add (s:St) (x:List Nat):St :=
 match s.op with
 |[]=>{ s with dn:=s.dn++[x] }
 |(t,l) :: r=>{ s with op:=(t,l++[x]) :: r }
def put (s:St) (t:Nat) (b:List Nat):St:=if 65530<b.length then { s with e:=3 } else add s (Tl.elem t b)
def opn (s:St) (t:Int):St :=
 if Tl.made t=false then { s with e:=5 } else if 16<=s.op.length then { s with e:=6 } else { s with op:=(t.toNat,[]) :: s.op }
def cls (s:St):St :=
 match s.op with
 |[]=>{ s with e:=24 }
 |(t,l) :: r=>put { s with op:=r } t (if t=49 then Pt.sort l else l).flatten
def raw (s:St) (b:List Nat):St :=
 match Tl.levels b with
 |.error e=>{ s with e:=e }
 |.ok _=>add s b
def plainV (s:St) (v:Val):St :=
 match body v with
 |.error e=>{ s with e:=e }
 |.ok (t,b)=>put s t b
def step (s:St) (v:Val):St :=
 if s.e≠0 then s else if v.kind=1 then opn s v.n else if v.kind=2 then cls s else if v.kind=11 then raw s v.b else plainV s v
def done (s:St):Except Nat (List Nat) :=
 if s.e≠0 then .error s.e else if s.op≠[]then .error 24 else if 65536<s.dn.flatten.length then .error 3 else .ok s.dn.flatten
def fail (s:St) (n:Nat):St:=if s.e=0 then { s with e:=n } else s
structure Rd where
 e:Nat
 top:List Nat
 left:List (List Nat)
def start (b:List Nat):Rd:=⟨match Tl.levels b with
 |.error e=>e
 |.ok _=>0,b,[]⟩
def next (s:Rd) (tag:Int):Rd×Option (List Nat×List Nat) :=
 if s.e≠0 then(s,none)else match Tl.first s.top with
  |.error e=>({ s with e:=e },none)
  |.ok (t,i,n)=>if tag≠0/\(t:Int)≠tag then({ s with e:=5 },none)else({ s with top:=s.top.drop (i+n) },some ((s.top.drop i).take n,s.top.take (i+n)))
def more (s:Rd):Bool:=decide (s.e=0)&&decide (s.top≠[])
def enter (s:Rd) (tag:Int):Rd×Bool :=
 if s.e≠0 then(s,false)else if s.top≠[]/\Tl.made tag=false then({ s with e:=5 },false)else match next s tag with
  |(s2,none)=>(s2,false)
  |(s2,some (b,_))=>({ s2 with top:=b,left:=s2.top :: s2.left },true)
def leave (s:Rd):Rd :=
 if s.e≠0 then s else match s.left with
  |[]=>{ s with e:=24 }
  |b :: r=>if s.top≠[]then { s with e:=4 } else { s with top:=b,left:=r }
def tagOf (k:Int):Int:=if k=3 then 2 else if k=4 then 10 else if k=5 then 1 else if k=6 then 4 else if k=7 then 12 else if k=8 then 6 else if k=9 then 24 else 3
def ask (s:Rd) (k tag least most:Int):Rd×Val :=
 if s.e≠0 then(s,none0)else if k=1 then((enter s tag).1,{ none0 with is:=(enter s tag).2 })else if k=2 then(leave s,none0)else
 if k=11 then(match next s 0 with
  |(s2,none)=>(s2,none0)
  |(s2,some (_,b))=>(s2,{ none0 with b:=b }))else
 match next s (tagOf k)with
  |(s2,none)=>(s2,none0)
  |(s2,some (b,_))=>match said k least most b with
   |.error e=>({ s2 with e:=e },none0)
   |.ok v=>(s2,v)
def fin (s:Rd):Nat:=if s.e≠0 then s.e else if s.left≠[]then 24 else if s.top≠[]then 4 else 0
end De
namespace De
theorem body_len {v:Val} {t:Nat} {b:List Nat} (hb:v.b.length<=300) (ht:v.t.length<=300) (h:body v=.ok (t,b)):b.length<=300:=by
 have pr:∀ {a c:Nat} {x y:List Nat},(Except.ok (a,x):Except Nat (Nat×List Nat))=.ok (c,y)->x=y:=fun e=>(Prod.mk.inj (Except.ok.inj e)).2
 obtain⟨k,n,is,vb,vt⟩:=v;unfold body at h;simp only at *;have hw:=Wh.body_len n;by_cases e3:k=3
 ·rw[if_pos e3]at h;rw[<-pr h];omega
 rw[if_neg e3]at h;by_cases e4:k=4
 ·rw[if_pos e4]at h;rw[<-pr h];omega
 rw[if_neg e4]at h;by_cases e5:k=5
 ·rw[if_pos e5]at h;rw[<-pr h];simp
 rw[if_neg e5]at h;by_cases e6:k=6
 ·rw[if_pos e6]at h;rw[<-pr h];exact hb
 rw[if_neg e6]at h;by_cases e7:k=7
 ·rw[if_pos e7]at h;by_cases ha:Pt.asked vt n=0
  ·rw[if_pos ha]at h;rw[<-pr h];exact ht
  ·rw[if_neg ha]at h;exact absurd h (by simp)
 rw[if_neg e7]at h;by_cases e8:k=8
 ·rw[if_pos e8]at h;cases hp:Od.parse vt with
  |error e=>rw[hp]at h;exact absurd h (by simp)
  |ok l =>
   rw[hp]at h;rw[<-pr h];have hr:=((Od.right_iff l).1 (Od.parse_ok hp).2).1;have h1:=Od.rest_len (l.drop 2);have h2:=Od.septUpto_len (40*(l.getD 0 0).toNat+(l.getD 1 0).toNat) 6;rw[List.length_drop]at h1
   show(Od.septUpto _ 6++_).length<=_
   rw[List.length_append];omega
 rw[if_neg e8]at h;by_cases e9:k=9
 ·rw[if_pos e9]at h;by_cases ha:n<0∨253402300799<n
  ·rw[if_pos ha]at h;exact absurd h (by simp)
  ·rw[if_neg ha]at h;rw[<-pr h,Cal.text_len];decide
 rw[if_neg e9]at h;by_cases ha:n<0∨32767<n
 ·rw[if_pos ha]at h;exact absurd h (by simp)
 ·rw[if_neg ha]at h;rw[<-pr h];have:=Pt.flags_len n.toNat;omega
theorem parse_err {l:List Nat} {e:Nat} (h:Od.parse l=.error e):e≠0:=by
 intro h0;subst h0;unfold Od.parse at h;split at h
 ·exact absurd (Except.error.inj h) (by decide)
 ·split at h
  ·exact absurd h (by simp)
  ·exact absurd (Except.error.inj h) (by decide)
theorem body_err {v:Val} {e:Nat} (h:body v=.error e):e≠0:=by
 obtain⟨k,n,is,vb,vt⟩:=v;unfold body at h;simp only at h;by_cases e3:k=3
 ·rw[if_pos e3]at h;exact absurd h (by simp)
 rw[if_neg e3]at h;by_cases e4:k=4
 ·rw[if_pos e4]at h;exact absurd h (by simp)
 rw[if_neg e4]at h;by_cases e5:k=5
 ·rw[if_pos e5]at h;exact absurd h (by simp)
 rw[if_neg e5]at h;by_cases e6:k=6
 ·rw[if_pos e6]at h;exact absurd h (by simp)
 rw[if_neg e6]at h;by_cases e7:k=7
 ·rw[if_pos e7]at h;by_cases ha:Pt.asked vt n=0
  ·rw[if_pos ha]at h;exact absurd h (by simp)
  ·rw[if_neg ha]at h;rw[<-Except.error.inj h];exact ha
 rw[if_neg e7]at h;by_cases e8:k=8
 ·rw[if_pos e8]at h;cases hp:Od.parse vt with
  |error e2=>rw[hp]at h;rw[<-Except.error.inj h];exact parse_err hp
  |ok l=>rw[hp]at h;exact absurd h (by simp)
 rw[if_neg e8]at h;by_cases e9:k=9
 ·rw[if_pos e9]at h;by_cases ha:n<0∨253402300799<n
  ·rw[if_pos ha]at h;rw[<-Except.error.inj h];decide
  ·rw[if_neg ha]at h;exact absurd h (by simp)
 rw[if_neg e9]at h;by_cases ha:n<0∨32767<n
 ·rw[if_pos ha]at h;rw[<-Except.error.inj h];decide
 ·rw[if_neg ha]at h;exact absurd h (by simp)
def Fit (v:Val):Prop:=(3<=v.kind/\v.kind<=10)/\I64 v.n/\v.b.length<=300/\v.t.length<=300
def elemOf (v:Val):List Nat:=match body v with
 |.error _=>[]
 |.ok (t,b)=>Tl.elem t b
def has (v:Val):Bool:=match body v with
 |.error _=>false
 |.ok _=>true
theorem has_ok {v:Val} (h:has v=true):∃ t b,body v=.ok (t,b):=by
 unfold has at h;cases hb:body v with
 |error e=>rw[hb]at h;exact absurd h (by simp)
 |ok p=>exact⟨p.1,p.2,rfl⟩
theorem elemOf_ok {v:Val} {t:Nat} {b:List Nat} (h:body v=.ok (t,b)):elemOf v=Tl.elem t b:=by
 unfold elemOf;rw[h]
theorem step_plain {s:St} {v:Val} (hf:Fit v) (he:s.e=0):step s v=if has v=true then add s (elemOf v)else step s v:=by
 by_cases h:has v=true
 ·rw[if_pos h];obtain⟨t,b,hb⟩:=has_ok h;have hl:=body_len hf.2.2.1 hf.2.2.2 hb;have hk:=hf.1;unfold step;rw[if_neg (by rw[he];decide),if_neg (by omega),if_neg (by omega),if_neg (by omega),plainV,hb]
  show put s t b=_
  rw[put,if_neg (by omega),elemOf_ok hb]
 ·rw[if_neg h]
end De
namespace De
theorem strOf_at (l:List Nat) (i:Nat) (h:i<l.length):(strOf l)[i]! = UInt8.ofNat (l.getD i 0):=by
 have hs:i<(strOf l).size:=by rw[zAE];exact h
 rw[getElem!_pos (strOf l) i hs,List.getD_eq_getElem?_getD,List.getElem?_eq_getElem h]
 show((l.map UInt8.ofNat).toArray)[i]'(by simpa using h)=_
 rw[List.getElem_toArray,List.getElem_map];rfl
theorem ne_at {x y:Nat} (hx:x<256) (hy:y<256):(UInt8.ofNat x != UInt8.ofNat y)=decide (x≠y):=by
 rw[Bool.eq_iff_iff];simp only[bne_iff_ne,ne_eq,decide_eq_true_eq];refine not_congr ⟨fun h=>?_,fun h=>by rw[h]⟩;have:=congrArg UInt8.toNat h;rw[UInt8.toNat_ofNat',UInt8.toNat_ofNat',Nat.mod_eq_of_lt hx,Nat.mod_eq_of_lt hy]at this;exact this
theorem lt_at {x y:Nat} (hx:x<256) (hy:y<256):(UInt8.ofNat x<UInt8.ofNat y)↔x<y:=by
 rw[UInt8.lt_iff_toNat_lt,UInt8.toNat_ofNat',UInt8.toNat_ofNat',Nat.mod_eq_of_lt hx,Nat.mod_eq_of_lt hy]
theorem lex_at:∀ (a b:List Nat) (i:Nat),(∀ j,j<i->a.getD j 0=b.getD j 0)->i<=a.length->i<=b.length ->
  (i<a.length->i<b.length->a.getD i 0≠b.getD i 0->Cal.lex a b=decide (a.getD i 0<b.getD i 0)) /\
  (i=a.length∨i=b.length->Cal.lex a b=decide (a.length<b.length))
 |[],[],i,_,ha,_=>⟨fun h=>absurd h (by simp),fun _=>by simp[Cal.lex]⟩
 |[],y :: s,i,_,ha,_=>⟨fun h=>absurd h (by simp),fun _=>by simp[Cal.lex]⟩
 |x :: r,[],i,_,_,hb=>⟨fun _ h=>absurd h (by simp),fun _=>by simp[Cal.lex]⟩
 |x :: r,y :: s,0,_,_,_=>⟨fun _ _ h=>by
   simp only[List.getD_cons_zero]at h ⊢;rw[Cal.lex,if_neg h],fun h=>by simp at h⟩
 |x :: r,y :: s,i+1,hj,ha,hb=>by
  have e:x=y:=by simpa using hj 0 (by omega)
  subst e;have ih:=lex_at r s i (fun j h=>by simpa using hj (j+1) (by omega)) (by simpa using ha) (by simpa using hb);simp only[List.getD_cons_succ,List.length_cons]at ih ⊢;rw[Cal.lex,if_pos rfl];refine⟨fun h1 h2 h3=>ih.1 (by omega) (by omega) h3,fun h=>?_⟩;rw[ih.2 (by omega)];simp
theorem cmp_lex {a b:List Nat} (ha:∀ x∈a,x<256) (hb:∀ x∈b,x<256):decide (Tl.cmpB a b<0)=Cal.lex a b:=by
 have ga:∀ i,a.getD i 0<256:=fun i=>by
  rw[List.getD_eq_getElem?_getD];cases h:a[i]? with
  |none=>exact Nat.zero_lt_succ _
  |some x=>exact ha x (List.mem_of_getElem? h)
 have gb:∀ i,b.getD i 0<256:=fun i=>by
  rw[List.getD_eq_getElem?_getD];cases h:b[i]? with
  |none=>exact Nat.zero_lt_succ _
  |some x=>exact hb x (List.mem_of_getElem? h)
 unfold Tl.cmpB Extern.BytealgCompare.cmp;rw[zAE,zAE];have pe:∀ i,i<min a.length b.length->((strOf a)[i]! !=(strOf b)[i]!)=decide (a.getD i 0≠b.getD i 0):=fun i h=>by
  rw[strOf_at a i (by omega),strOf_at b i (by omega),ne_at (ga i) (gb i)]
 cases hf:(List.range (min a.length b.length)).find? fun i=>(strOf a)[i]! !=(strOf b)[i]! with
 |none =>
  rw[List.find?_range_eq_none]at hf;have hj:∀ j,j<min a.length b.length->a.getD j 0=b.getD j 0:=fun j h=>by
   have:=hf j h;rw[pe j h]at this;simpa using this
  have hl:=(lex_at a b (min a.length b.length) hj (by omega) (by omega)).2 (by omega);rw[hl]
  show decide ((if a.length<b.length then(-1:Int)else if a.length > b.length then 1 else 0)<0)=_
  by_cases h1:a.length<b.length
  ·rw[if_pos h1];simp[h1]
  ·rw[if_neg h1];split <;> simp[h1]
 |some i =>
  rw[List.find?_range_eq_some]at hf;obtain⟨h1,h2,h3⟩:=hf;have hi:i<min a.length b.length:=List.mem_range.1 h2;rw[pe i hi]at h1;have hj:∀ j,j<i->a.getD j 0=b.getD j 0:=fun j h=>by
   have:=h3 j h;rw[pe j (by omega)]at this;simpa using this
  have hl:=(lex_at a b i hj (by omega) (by omega)).1 (by omega) (by omega) (by simpa using h1);rw[hl]
  show decide ((if(strOf a)[i]!<(strOf b)[i]! then(-1:Int)else 1)<0)=_
  rw[strOf_at a i (by omega),strOf_at b i (by omega)];by_cases h:a.getD i 0<b.getD i 0
  ·rw[if_pos ((lt_at (ga i) (gb i)).2 h)];simp only[h];decide
  ·rw[if_neg (fun h2=>h ((lt_at (ga i) (gb i)).1 h2))];simp only[h];decide
theorem loop_less {rec1 rec2:Nat->List Nat->Except Nat Nat} (hr:∀ t b,rec2 t b=.error 6∨rec2 t b=rec1 t b) (one set:Bool) :
  ∀ f b ah d,Tl.loop rec2 one set f b ah d=.error 6∨Tl.loop rec2 one set f b ah d=Tl.loop rec1 false set f b ah d
 |0,_,_,_=>.inr rfl
 |f+1,b,ah,d=>by
  rw[Tl.loop,Tl.loop];by_cases hb:b=[]
  ·rw[if_pos hb,if_pos hb];exact .inr rfl
  rw[if_neg hb,if_neg hb];cases hf:Tl.first b with
  |error e=>exact .inr rfl
  |ok p =>
   obtain⟨t,i,n⟩:=p
   show(if one=true then _ else _)=_∨(if one=true then _ else _)=(if false=true then _ else _)
   cases one
   ·rw[if_neg (by decide),if_neg (by decide)];rcases hr t ((b.drop i).take n)with h|h
    ·rw[h];exact .inl rfl
    ·rw[h];cases hm:rec1 t ((b.drop i).take n)with
     |error e=>exact .inr rfl
     |ok m =>
      show(if _ then _ else _)=_∨(if _ then _ else _)=(if _ then _ else _)
      by_cases hs:(set&&decide (Tl.cmpB (b.take (i+n)) ah<0))=true
      ·rw[if_pos hs,if_pos hs];exact .inr rfl
      ·rw[if_neg hs,if_neg hs];exact loop_less hr false set f _ _ _
   ·rw[if_pos rfl];exact .inl rfl
theorem within_less:∀ k t b,Tl.within k t b=.error 6∨Tl.within k t b=Tl.within (k+1) t b
 |0,_,_=>.inl rfl
 |k+1,t,b=>by
  rw[Tl.within,Tl.within];by_cases hm:Tl.made (t:Int)=true
  ·rw[if_pos hm,if_pos hm];have h:=loop_less (within_less k) (decide (k=0)) (decide (t=49)) b.length b [] 0;rw[show decide (k+1=0)=false from rfl];rcases h with h|h
   ·rw[h];exact .inl rfl
   ·rw[h];exact .inr rfl
  ·rw[if_neg hm,if_neg hm];exact .inr rfl
def Deep (r:Except Nat Nat):Prop:=(∃ m,r=.ok m)∨r=.error 6
theorem deep_less {k t:Nat} {b:List Nat} (h:Deep (Tl.within (k+1) t b)):Deep (Tl.within k t b):=by
 rcases within_less k t b with h2|h2
 ·exact .inr h2
 ·rw[h2];exact h
def Ok (x:List Nat):Prop:=∃ t b,Tl.known (t:Nat)=true/\b.length<=65530/\x=Tl.elem t b/\(∀ z∈b,z<256)/\Deep (Tl.within 16 t b)
theorem Ok.lt {x:List Nat} (h:Ok x):∀ z∈x,z<256:=by
 obtain⟨t,b,h1,_,rfl,h3,_⟩:=h;have:=Tl.known_nat _ h1;exact Tl.elem_lt (by omega) h3
theorem loop_ok (k:Nat) (set:Bool):∀ (xs:List (List Nat)) (f:Nat) (ah:List Nat) (d:Nat),(∀ x∈xs,Ok x)->(set=true->(∀ z∈ah,z<256)/\(ah :: xs).Pairwise Pt.le)->xs.flatten.length<=f->k<=16 ->
  Deep (Tl.loop (Tl.within k) false set f xs.flatten ah d)
 |[],f,ah,d,_,_,_,_=>.inl ⟨d,by cases f <;> simp[Tl.loop]⟩
 |x :: r,f,ah,d,hx,hs,hf,hk=>by
  have hxl:=(hx x (by simp)).lt;obtain⟨t,b,ht,hb,rfl,_,hw⟩:=hx x (by simp);have hl:=Tl.elem_len t b;rw[List.flatten_cons,List.length_append,hl]at hf;obtain⟨g,rfl⟩:∃ g,f=g+1:=⟨f-1,by omega⟩
  have hne:Tl.elem t b++r.flatten≠[]:=by simp[Tl.elem]
  have hd:Deep (Tl.within k t b):=by
   have:∀ j,j<=16->Deep (Tl.within (16-j) t b):=fun j=>by
    induction j with
    |zero=>intro _;exact hw
    |succ j ih =>
     intro hj;have:=ih (by omega);rw[show 16-j=(16-(j+1))+1 by omega]at this;exact deep_less this
   have:=this (16-k) (by omega);rwa [show 16-(16-k)=k by omega]at this
  have htk:(Tl.elem t b++r.flatten).take (2+Tl.more b.length+b.length)=Tl.elem t b:=by rw[<-hl,List.take_left' rfl]
  rw[List.flatten_cons,Tl.loop,if_neg hne,Tl.first_ok t b _ ht hb];simp only[Bool.false_eq_true,if_false,Tl.elem_body];rw[Tl.elem_rest,htk];rcases hd with⟨m,hm⟩|hm
  ·rw[hm]
   show Deep (if _ then _ else _)
   have hc:(set&&decide (Tl.cmpB (Tl.elem t b) ah<0))=false:=by
    cases set
    ·rfl
    ·obtain⟨h1,h2⟩:=hs rfl;rw[Bool.true_and,cmp_lex hxl h1];exact(List.pairwise_cons.1 h2).1 _ (by simp)
   rw[hc,if_neg (by decide)];exact loop_ok k set r g (Tl.elem t b) (max d m) (fun y hy=>hx y (by simp[hy])) (fun h=>⟨hxl,(List.pairwise_cons.1 (hs h).2).2⟩) (by omega) hk
  ·rw[hm];exact .inr rfl
end De
namespace De
theorem foldl_num (l:List Nat):∀ a,l.foldl (fun a x=>256*a+x) a=a*256 ^ l.length+Tl.num l:=by
 induction l with
 |nil=>intro a;simp[Tl.num]
 |cons x r ih =>
  intro a;have e:Tl.num (x :: r)=(256*0+x)*256 ^ r.length+Tl.num r:=ih _;rw[List.foldl_cons,ih,e,List.length_cons,Nat.pow_succ,Nat.add_mul,Nat.add_mul,Nat.mul_comm 256 a,Nat.mul_assoc a 256,Nat.mul_comm 256 (256 ^ r.length)];omega
theorem num_cons (x:Nat) (r:List Nat):Tl.num (x :: r)=x*256 ^ r.length+Tl.num r:=by
 have e:Tl.num (x :: r)=(256*0+x)*256 ^ r.length+Tl.num r:=foldl_num r _;rw[e,Nat.mul_zero,Nat.zero_add]
theorem num_lt2:∀ {l:List Nat},(∀ x∈l,x<256)->Tl.num l<256 ^ l.length
 |[],_=>by simp[Tl.num]
 |x :: r,h=>by
  have ih:=num_lt2 (l:=r) (fun y hy=>h y (by simp[hy]));have hx:=h x (by simp);rw[num_cons,List.length_cons,Nat.pow_succ];have:x*256 ^ r.length<=255*256 ^ r.length:=Nat.mul_le_mul_right _ (by omega);omega
theorem be_add (x:Nat):∀ (k j n:Nat),k<=j->Tl.be k (x*256 ^ j+n)=Tl.be k n
 |0,_,_,_=>rfl
 |k+1,j,n,h=>by
  rw[Tl.be,Tl.be,be_add x k j n (by omega)];have e:x*256 ^ j=(x*256 ^ (j-k-1)*256)*256 ^ k:=by
   rw[Nat.mul_assoc,Nat.mul_assoc,<-Nat.pow_succ',<-Nat.pow_add,show j-k-1+(k+1)=j by omega]
  rw[e,Nat.mul_comm _ (256 ^ k),Nat.mul_add_div (Nat.pow_pos (by decide)),Nat.mul_comm _ 256,Nat.mul_add_mod]
theorem be_num:∀ {l:List Nat},(∀ x∈l,x<256)->Tl.be l.length (Tl.num l)=l
 |[],_=>rfl
 |x :: r,h=>by
  have ih:=be_num (l:=r) (fun y hy=>h y (by simp[hy]));have hx:=h x (by simp);have hr:=num_lt2 (l:=r) (fun y hy=>h y (by simp[hy]));rw[num_cons,List.length_cons,Tl.be,be_add x _ _ _ (Nat.le_refl _),ih,Nat.mul_comm,Nat.mul_add_div (Nat.pow_pos (by decide)),Nat.div_eq_of_lt hr,Nat.add_zero,Nat.mod_eq_of_lt hx]
theorem rdLen_inv {r:List Nat} {n k:Nat} (h8:∀ x∈r,x<256) (h:Tl.rdLen r=.ok (n,k)):k=1+Tl.more n/\n<=65530/\k<=r.length/\r.take k=Tl.lenB n:=by
 have pr:∀ {a b c d:Nat},(Except.ok (a,b):Except Nat (Nat×Nat))=.ok (c,d)->a=c/\b=d:=fun e=>Prod.mk.inj (Except.ok.inj e)
 match r,h8,h with
 |x :: s,h8,h =>
  rw[Tl.rdLen]at h;by_cases h1:x<128
  ·rw[if_pos h1]at h;obtain⟨rfl,rfl⟩:=pr h;have hm:Tl.more x=0:=by unfold Tl.more;rw[if_pos h1]
   refine⟨by rw[hm],by omega,by simp,?_⟩;unfold Tl.lenB;rw[if_pos h1];rfl
  rw[if_neg h1]at h;by_cases h2:x=128∨132<x
  ·rw[if_pos h2]at h;exact absurd h (by simp)
  rw[if_neg h2]at h;by_cases h3:s.length<x-128
  ·rw[if_pos h3]at h;exact absurd h (by simp)
  rw[if_neg h3]at h;obtain⟨q,hq⟩:∃ q,x=128+q:=⟨x-128,by omega⟩
  rw[show x-128=q by omega]at h h3;by_cases h4:Tl.more (Tl.num (s.take q))≠q
  ·rw[if_pos h4]at h;exact absurd h (by simp)
  rw[if_neg h4]at h;have h4:Tl.more (Tl.num (s.take q))=q:=Decidable.byContradiction h4;by_cases h5:65530<Tl.num (s.take q)
  ·rw[if_pos h5]at h;exact absurd h (by simp)
  rw[if_neg h5]at h;obtain⟨hn,rfl⟩:=pr h;have hl:(s.take q).length=q:=by rw[List.length_take];omega
  have hb:=be_num (l:=s.take q) (fun y hy=>h8 y (by simp[List.mem_of_mem_take hy]));rw[hl,hn]at hb;rw[hn]at h4 h5;refine⟨by omega,by omega,by simp only[List.length_cons];omega,?_⟩;have h128:¬ n<128:=by
   intro h6;unfold Tl.more at h4;rw[if_pos h6]at h4;omega
  unfold Tl.lenB;rw[if_neg h128,h4,hb,Nat.add_comm 1 q,List.take_succ_cons,hq]
theorem first_inv {b:List Nat} {t i n:Nat} (h8:∀ x∈b,x<256) (h:Tl.first b=.ok (t,i,n)) :
  Tl.known (t:Nat)=true/\n<=65530/\i+n<=b.length/\((b.drop i).take n).length=n/\b.take (i+n)=Tl.elem t ((b.drop i).take n):=by
 match b,h8,h with
 |x :: r,h8,h =>
  rw[Tl.first]at h;by_cases h1:Tl.known (x:Nat)=false
  ·rw[if_pos h1]at h;exact absurd h (by simp)
  rw[if_neg h1]at h;cases hr:Tl.rdLen r with
  |error e=>rw[hr]at h;exact absurd h (by simp)
  |ok p =>
   obtain⟨m,k⟩:=p;rw[hr]at h;have h:(if r.length-k<m then(Except.error 2:Except Nat (Nat×Nat×Nat))else .ok (x,1+k,m))=.ok (t,i,n):=h;by_cases h2:r.length-k<m
   ·rw[if_pos h2]at h;exact absurd h (by simp)
   rw[if_neg h2]at h;obtain⟨rfl,h3⟩:=Prod.mk.inj (Except.ok.inj h);obtain⟨rfl,rfl⟩:=Prod.mk.inj h3;obtain⟨hk,hm,hkl,hlen⟩:=rdLen_inv (fun y hy=>h8 y (by simp[hy])) hr;have hl:(((x :: r).drop (1+k)).take m).length=m:=by
    rw[List.length_take,List.length_drop,List.length_cons];omega
   refine⟨by simpa using h1,hm,by simp only[List.length_cons];omega,hl,?_⟩;rw[Tl.elem,hl,<-hlen,Nat.add_comm 1 k,show k+1+m=(k+m)+1 by omega,List.take_succ_cons,List.drop_succ_cons,<-List.take_add]
theorem levels_inv {b:List Nat} {m:Nat} (h8:∀ x∈b,x<256) (h:Tl.levels b=.ok m):Ok b:=by
 unfold Tl.levels at h;by_cases h1:65536<b.length
 ·rw[if_pos h1]at h;exact absurd h (by simp)
 rw[if_neg h1]at h;cases hf:Tl.first b with
 |error e=>rw[hf]at h;exact absurd h (by simp)
 |ok p =>
  obtain⟨t,i,n⟩:=p;rw[hf]at h;have h:(if i+n<b.length then(Except.error 4:Except Nat Nat)else Tl.within 16 t ((b.drop i).take n))=.ok m:=h;by_cases h2:i+n<b.length
  ·rw[if_pos h2]at h;exact absurd h (by simp)
  rw[if_neg h2]at h;obtain⟨hk,hn,hl,hlen,he⟩:=first_inv h8 hf;refine⟨t,(b.drop i).take n,hk,by omega,?_,fun z hz=>h8 z (List.mem_of_mem_drop (List.mem_of_mem_take hz)),.inl ⟨m,h⟩⟩;rw[<-he,List.take_of_length_le (by omega)]
structure Good (s:St):Prop where
 dn:∀ x∈s.dn,Ok x
 op:∀ p∈s.op,Tl.made (p.1:Nat)=true/\∀ x∈p.2,Ok x
theorem good_zero:Good St.zero:=⟨by simp[St.zero],by simp[St.zero]⟩
theorem good_err {s:St} (h:Good s) (e:Nat):Good { s with e:=e }:=⟨h.dn,h.op⟩
theorem good_add {s:St} {x:List Nat} (h:Good s) (hx:Ok x):Good (add s x):=by
 obtain⟨e,op,dn⟩:=s
 match op,h with
 |[],h =>
  refine⟨fun y hy=>?_,h.op⟩;rcases List.mem_append.1 hy with h1|h1
  ·exact h.dn y h1
  ·rw[List.mem_singleton]at h1;rw[h1];exact hx
 |(t,l) :: r,h =>
  refine⟨h.dn,fun p hp=>?_⟩;rcases List.mem_cons.1 hp with rfl|hp
  ·have:=h.op (t,l) (by simp);refine⟨this.1,fun y hy=>?_⟩;rcases List.mem_append.1 hy with h1|h1
   ·exact this.2 y h1
   ·rw[List.mem_singleton]at h1;rw[h1];exact hx
  ·exact h.op p (by simp[hp])
theorem good_put {s:St} {t:Nat} {b:List Nat} (h:Good s) (hk:Tl.known (t:Nat)=true) (h8:∀ z∈b,z<256) (hw:b.length<=65530->Deep (Tl.within 16 t b)):Good (put s t b):=by
 unfold put;by_cases hl:65530<b.length
 ·rw[if_pos hl];exact good_err h 3
 ·rw[if_neg hl];exact good_add h ⟨t,b,hk,by omega,rfl,h8,hw (by omega)⟩
theorem within_flat {t:Nat} (b:List Nat) (h:Tl.made (t:Nat)=false):Deep (Tl.within 16 t b):=.inl ⟨1,by rw[Tl.within,h];rfl⟩
theorem known_made {t:Nat} (h:Tl.made (t:Nat)=true):Tl.known (t:Nat)=true:=by unfold Tl.known;rw[h];rfl
theorem good_cls {s:St} (h:Good s):Good (cls s):=by
 obtain⟨e,op,dn⟩:=s
 match op,h with
 |[],h=>exact good_err h 24
 |(t,l) :: r,h =>
  obtain⟨hm,hl⟩:=h.op (t,l) (by simp);have h2:Good ⟨e,r,dn⟩:=⟨h.dn,fun p hp=>h.op p (by simp[hp])⟩;obtain⟨xs,hxs⟩:∃ xs,xs=(if t=49 then Pt.sort l else l):=⟨_,rfl⟩
  have hx:∀ x∈xs,Ok x:=fun x hx=>by
   rw[hxs]at hx;split at hx
   ·exact hl x (Pt.sort_mem.1 hx)
   ·exact hl x hx
  have hs:t=49->([] :: xs).Pairwise Pt.le:=fun h49=>by
   rw[hxs,if_pos h49];refine List.pairwise_cons.2 ⟨fun y _=>?_,Pt.sort_sorted l⟩
   show Cal.lex y []=false
   cases y <;> rfl
  show Good (put ⟨e,r,dn⟩ t (if t=49 then Pt.sort l else l).flatten)
  rw[<-hxs];refine good_put h2 (known_made hm) ?_ (fun hlen=>?_)
  ·intro z hz;obtain⟨x,hx1,hx2⟩:=List.mem_flatten.1 hz;exact(hx x hx1).lt z hx2
  ·rw[Tl.within,if_pos hm];have:=loop_ok 15 (decide (t=49)) xs xs.flatten.length [] 0 hx (fun h=>⟨by simp,hs (by simpa using h)⟩) (Nat.le_refl _) (by omega)
   show Deep (match Tl.loop (Tl.within 15) (decide (15=0)) (decide (t=49)) xs.flatten.length xs.flatten [] 0 with | .error e=>_ | .ok d=>_)
   rw[show decide (15=0)=false from rfl];rcases this with⟨m,hm⟩|hm
   ·rw[hm];exact .inl ⟨1+m,rfl⟩
   ·rw[hm];exact .inr rfl
end De
namespace De
theorem rest_lt:∀ (l:List Int),∀ x∈Od.rest l,x<256
 |[]=>by simp[Od.rest]
 |n :: r=>by
  intro x hx;rw[Od.rest,List.mem_append]at hx;rcases hx with h|h
  ·exact Od.septUpto_lt n.toNat 6 x h
  ·exact rest_lt r x h
theorem oput_lt (l:List Int):∀ x∈Od.put l,x<256:=by
 intro x hx;rcases List.mem_append.1 hx with h|h
 ·exact Od.septUpto_lt _ 6 x h
 ·exact rest_lt _ x h
theorem two_lt (n:Nat) (h:n<100):∀ x∈Cal.two n,x<256:=by
 intro x hx;simp only[Cal.two,List.mem_cons,List.not_mem_nil,or_false]at hx;omega
theorem ctext_lt {d:Cal.Date} (h:Cal.Right d):∀ x∈Cal.text d,x<256:=by
 obtain⟨⟨y1,y2⟩,⟨m1,m2⟩,⟨d1,d2⟩,h1,h2,h3⟩:=h;have hd:=(Cal.days_pos (y:=d.Y) m1 m2).2;intro x hx;simp only[Cal.text,List.mem_append]at hx;rcases hx with h|h|h|h|h|h|h|h
 ·exact two_lt _ (by omega) x h
 ·exact two_lt _ (by omega) x h
 ·exact two_lt _ (by omega) x h
 ·exact two_lt _ (by omega) x h
 ·exact two_lt _ (by omega) x h
 ·exact two_lt _ (by omega) x h
 ·exact two_lt _ (by omega) x h
 ·rw[List.mem_singleton]at h;omega
def Byt (v:Val):Prop:=(∀ z∈v.b,z<256)/\(∀ z∈v.t,z<256)
theorem body_lt {v:Val} {t:Nat} {b:List Nat} (hv:Byt v) (h:body v=.ok (t,b)):(∀ z∈b,z<256)/\Tl.made (t:Nat)=false/\Tl.known (t:Nat)=true:=by
 have pr:∀ {a c:Nat} {x y:List Nat},(Except.ok (a,x):Except Nat (Nat×List Nat))=.ok (c,y)->a=c/\x=y:=fun e=>Prod.mk.inj (Except.ok.inj e)
 obtain⟨hb,ht⟩:=hv;obtain⟨k,n,is,vb,vt⟩:=v;unfold body at h;simp only at *;by_cases e3:k=3
 ·rw[if_pos e3]at h;obtain⟨rfl,rfl⟩:=pr h;exact⟨Wh.body_lt n,by decide,by decide⟩
 rw[if_neg e3]at h;by_cases e4:k=4
 ·rw[if_pos e4]at h;obtain⟨rfl,rfl⟩:=pr h;exact⟨Wh.body_lt n,by decide,by decide⟩
 rw[if_neg e4]at h;by_cases e5:k=5
 ·rw[if_pos e5]at h;obtain⟨rfl,rfl⟩:=pr h;exact⟨by cases is <;> simp,by decide,by decide⟩
 rw[if_neg e5]at h;by_cases e6:k=6
 ·rw[if_pos e6]at h;obtain⟨rfl,rfl⟩:=pr h;exact⟨hb,by decide,by decide⟩
 rw[if_neg e6]at h;by_cases e7:k=7
 ·rw[if_pos e7]at h;by_cases ha:Pt.asked vt n=0
  ·rw[if_pos ha]at h;obtain⟨rfl,rfl⟩:=pr h;exact⟨ht,by decide,by decide⟩
  ·rw[if_neg ha]at h;exact absurd h (by simp)
 rw[if_neg e7]at h;by_cases e8:k=8
 ·rw[if_pos e8]at h;cases hp:Od.parse vt with
  |error e=>rw[hp]at h;exact absurd h (by simp)
  |ok l=>rw[hp]at h;obtain⟨rfl,rfl⟩:=pr h;exact⟨oput_lt l,by decide,by decide⟩
 rw[if_neg e8]at h;by_cases e9:k=9
 ·rw[if_pos e9]at h;by_cases ha:n<0∨253402300799<n
  ·rw[if_pos ha]at h;exact absurd h (by simp)
  ·rw[if_neg ha]at h;obtain⟨rfl,rfl⟩:=pr h;exact⟨ctext_lt (Cal.of_right (by omega)).1,by decide,by decide⟩
 rw[if_neg e9]at h;by_cases ha:n<0∨32767<n
 ·rw[if_pos ha]at h;exact absurd h (by simp)
 ·rw[if_neg ha]at h;obtain⟨rfl,rfl⟩:=pr h;exact⟨Pt.flags_lt _ (by omega),by decide,by decide⟩
theorem good_step {s:St} {v:Val} (h:Good s) (hv:Byt v):Good (step s v):=by
 unfold step;by_cases he:s.e≠0
 ·rw[if_pos he];exact h
 rw[if_neg he];by_cases h1:v.kind=1
 ·rw[if_pos h1];unfold opn;by_cases hm:Tl.made v.n=false
  ·rw[if_pos hm];exact good_err h 5
  rw[if_neg hm];by_cases hd:16<=s.op.length
  ·rw[if_pos hd];exact good_err h 6
  rw[if_neg hd];have hm2:Tl.made v.n=true:=by simpa using hm
  have:=Tl.made_nat _ hm2;refine⟨h.dn,fun p hp=>?_⟩;rcases List.mem_cons.1 hp with rfl|hp
  ·exact⟨by show Tl.made ((v.n.toNat:Nat):Int)=true;rw[Int.toNat_of_nonneg (by omega)];exact hm2,by simp⟩
  ·exact h.op p hp
 rw[if_neg h1];by_cases h2:v.kind=2
 ·rw[if_pos h2];exact good_cls h
 rw[if_neg h2];by_cases h3:v.kind=11
 ·rw[if_pos h3];unfold raw;cases hl:Tl.levels v.b with
  |error e=>exact good_err h e
  |ok m=>exact good_add h (levels_inv hv.1 hl)
 rw[if_neg h3];unfold plainV;cases hb:body v with
 |error e=>exact good_err h e
 |ok p =>
  obtain⟨t,b⟩:=p;obtain⟨h8,hm,hk⟩:=body_lt hv hb;exact good_put h hk h8 (fun _=>within_flat b hm)
def all:Nat->List Nat->Except Nat (List (Nat×List Nat))
 |0,_=>.ok []
 |f+1,b=>if b=[]then .ok []else match Tl.first b with
  |.error e=>.error e
  |.ok (t,i,n)=>match all f (b.drop (i+n))with
   |.error e=>.error e
   |.ok r=>.ok ((t,(b.drop i).take n) :: r)
end De
namespace De
def whole (levels:Nat) (set:Bool) (b:List Nat):Except Nat Nat:=Tl.loop (Tl.within levels) (decide (levels=0)) set b.length b [] 0
theorem within_whole (k t:Nat) (b:List Nat):Tl.within (k+1) t b=if Tl.made t=true then(match whole k (decide (t=49)) b with
  |.error e=>.error e
  |.ok d=>.ok (1+d))else .ok 1:=by
 rw[Tl.within];rfl
def check (b:List Nat):Except Nat Nat:=if 65536<b.length then .error 3 else match Tl.first b with
 |.error e=>.error e
 |.ok (_,i,n)=>if i+n<b.length then .error 4 else whole 16 false b
theorem check_levels (b:List Nat) (h8:∀ x∈b,x<256):check b=Tl.levels b:=by
 unfold check Tl.levels;by_cases h1:65536<b.length
 ·rw[if_pos h1,if_pos h1]
 rw[if_neg h1,if_neg h1];cases hf:Tl.first b with
 |error e=>rfl
 |ok p =>
  obtain⟨t,i,n⟩:=p
  show(if _ then _ else _)=(if _ then _ else _)
  by_cases h2:i+n<b.length
  ·rw[if_pos h2,if_pos h2]
  rw[if_neg h2,if_neg h2];obtain⟨_,_,hl,_,_⟩:=first_inv h8 hf;have hne:b≠[]:=by
   intro h;subst h;exact absurd hf (by simp[Tl.first])
  obtain⟨g,hg⟩:∃ g,b.length=g+1:=⟨b.length-1,by cases b with
   |nil=>exact absurd rfl hne
   |cons x r=>simp⟩
  unfold whole;rw[hg,Tl.loop,if_neg hne,hf];simp only[Bool.false_eq_true,if_false,Bool.false_and,Nat.reduceEqDiff,decide_false];cases hw:Tl.within 16 t ((b.drop i).take n)with
  |error e=>rfl
  |ok m =>
   show Tl.loop _ _ _ g (b.drop (i+n)) _ _=_
   rw[List.drop_eq_nil_of_le (by omega)];cases g with
   |zero=>rw[Tl.loop,Nat.zero_max]
   |succ g=>rw[Tl.loop,if_pos rfl,Nat.zero_max]
theorem lenB_form {s:List Nat} (h8:∀ x∈s,x<256) (h1:1<=s.length):Tl.lenB (Tl.num s)=(128+s.length) :: s↔Tl.more (Tl.num s)=s.length:=by
 constructor
 ·intro h;have:=congrArg List.length h;rw[Tl.lenB_len,List.length_cons]at this;omega
 ·intro h;have h128:¬ Tl.num s<128:=by
   intro h6;unfold Tl.more at h;rw[if_pos h6]at h;omega
  unfold Tl.lenB;rw[if_neg h128,h,be_num h8]
theorem num_lt4 {s:List Nat} (h8:∀ x∈s,x<256) (h4:s.length<=4):Tl.num s<4294967296:=by
 have h:=num_lt2 h8;have:256 ^ s.length<=256 ^ 4:=Nat.pow_le_pow_right (by decide) h4;omega
end De
namespace De
theorem rdLen_err {l:List Nat} {k:Nat} (h:Tl.rdLen l=.error k):k≠0:=by
 intro h0;subst h0;unfold Tl.rdLen at h
 repeat' split at h
 all_goals first
  |exact absurd h (by simp)
  |exact absurd (Except.error.inj h) (by decide)
theorem first_err {l:List Nat} {k:Nat} (h:Tl.first l=.error k):k≠0:=by
 intro h0;subst h0
 match l,h with
 |[],h=>exact absurd (Except.error.inj h) (by decide)
 |t :: r,h =>
  rw[Tl.first]at h;split at h
  ·exact absurd (Except.error.inj h) (by decide)
  ·split at h
   ·rename_i e he
    exact rdLen_err he (Except.error.inj h)
   ·split at h
    ·exact absurd (Except.error.inj h) (by decide)
    ·exact absurd h (by simp)
theorem loop_err {rec:Nat->List Nat->Except Nat Nat} {one set:Bool} (hr:∀ t b k,rec t b=.error k->k≠0):∀ (f:Nat) (b a:List Nat) (d k:Nat),Tl.loop rec one set f b a d=.error k->k≠0
 |0,_,_,_,_,h=>by rw[Tl.loop]at h;exact absurd h (by simp)
 |f+1,b,a,d,k,h=>by
  rw[Tl.loop]at h;split at h
  ·exact absurd h (by simp)
  ·split at h
   ·rename_i e he
    rw[<-Except.error.inj h];exact first_err he
   ·split at h
    ·rw[<-Except.error.inj h];decide
    ·split at h
     ·rename_i e he
      rw[<-Except.error.inj h];exact hr _ _ _ he
     ·split at h
      ·rw[<-Except.error.inj h];decide
      ·exact loop_err hr f _ _ _ _ h
theorem within_err:∀ (L t:Nat) (b:List Nat) (k:Nat),Tl.within L t b=.error k->k≠0
 |0,t,b,k,h=>by rw[<-Except.error.inj h];decide
 |L+1,t,b,k,h=>by
  rw[Tl.within]at h;split at h
  ·split at h
   ·rename_i e he
    rw[<-Except.error.inj h];exact loop_err (within_err L) _ _ _ _ _ he
   ·exact absurd h (by simp)
  ·exact absurd h (by simp)
theorem whole_err {L:Nat} {set:Bool} {b:List Nat} {k:Nat} (h:whole L set b=.error k):k≠0:=loop_err (within_err L) _ _ _ _ _ h
theorem loop_le {rec:Nat->List Nat->Except Nat Nat} {one set:Bool} {K:Nat} (hr:∀ t b m,rec t b=.ok m->m<=K):∀ (f:Nat) (b a:List Nat) (d m:Nat),d<=K->Tl.loop rec one set f b a d=.ok m->m<=K
 |0,b,a,d,m,hd,h=>by rw[Tl.loop]at h;cases h;exact hd
 |f+1,b,a,d,m,hd,h=>by
  rw[Tl.loop]at h;split at h
  ·cases h;exact hd
  ·split at h
   ·cases h
   ·split at h
    ·cases h
    ·split at h
     ·cases h
     ·rename_i hrec
      split at h
      ·cases h
      ·exact loop_le hr f _ _ _ m (Nat.max_le.2 ⟨hd,hr _ _ _ hrec⟩) h
theorem within_le:∀ (left t:Nat) (b:List Nat) (m:Nat),Tl.within left t b=.ok m->m<=left
 |0,t,b,m,h=>by cases h
 |L+1,t,b,m,h=>by
  rw[Tl.within]at h;split at h
  ·split at h
   ·cases h
   ·rename_i hlo
    have:=loop_le (within_le L) _ _ _ _ _ (Nat.zero_le _) hlo;cases h
    omega
  ·cases h;omega
theorem whole_le {L:Nat} {set:Bool} {b:List Nat} {m:Nat} (h:whole L set b=.ok m):m<=L:=loop_le (within_le L) _ _ _ _ _ (Nat.zero_le _) h
end De
def rowG {α:Type} (G:De.Rd->De.Rd×α):Nat->De.Rd->List α->De.Rd×List α
 |0,s,l=>(if De.more s=true then { s with e:=3 } else s,l)
 |f+1,s,l=>if De.more s=true then rowG G f (G s).1 (l++[(G s).2])else(s,l)
def zA0 {α:Type} (G:De.Rd->De.Rd×α) (s:De.Rd) (tag:Int) (most:Nat):De.Rd×List α :=
 (De.leave (rowG G most (De.enter s tag).1 []).1,if(De.leave (rowG G most (De.enter s tag).1 []).1).e≠0 then []else(rowG G most (De.enter s tag).1 []).2)
section
variable {α:Type} {G:De.Rd->De.Rd×α}
theorem more_e {s:De.Rd} (h:s.e≠0):De.more s=false:=by unfold De.more;simp[h]
theorem zLJ {s:De.Rd} (h:De.more s=true):s.e=0:=by
 apply Decidable.byContradiction;intro hn;rw[more_e hn]at h;cases h
theorem rowG_stop {s:De.Rd} (h:¬ De.more s=true) (f:Nat) (l:List α):rowG G f s l=(s,l):=by
 cases f with
 |zero=>rw[rowG,if_neg h]
 |succ f=>rw[rowG,if_neg h]
theorem zEU {s:De.Rd} (h:De.more s=true) (l:List α):rowG G 0 s l=({ s with e:=3 },l):=by rw[rowG,if_pos h]
theorem zET {s:De.Rd} (h:De.more s=true) (f:Nat) (l:List α):rowG G (f+1) s l=rowG G f (G s).1 (l++[(G s).2]):=by rw[rowG,if_pos h]
theorem zEq {s:De.Rd} (h:s.e≠0):De.leave s=s:=by unfold De.leave;rw[if_pos h]
theorem zJt {s:De.Rd} {tag:Int} (h:(De.enter s tag).2=false):(De.enter s tag).1.e≠0∨False:=by
 left
 unfold De.enter at h ⊢;by_cases he:s.e≠0
 ·rw[if_pos he];exact he
 rw[if_neg he]at h ⊢;by_cases hq:s.top≠[]/\Tl.made tag=false
 ·rw[if_pos hq];exact(by decide:(5:Nat)≠0)
 rw[if_neg hq]at h ⊢;cases hn:De.next s tag with
 |mk s2 r =>
  rw[hn]at h;cases r with
  |some x=>cases h
  |none =>
   show s2.e≠0
   unfold De.next at hn;rw[if_neg he]at hn;cases hf:Tl.first s.top with
   |error e =>
    rw[hf]at hn;obtain⟨rfl,_⟩:=Prod.mk.inj hn;exact De.first_err hf
   |ok p =>
    obtain⟨t,i,n⟩:=p;rw[hf]at hn;simp only at hn;by_cases hq2:tag≠0/\(t:Int)≠tag
    ·rw[if_pos hq2]at hn;obtain⟨rfl,_⟩:=Prod.mk.inj hn;exact(by decide:(5:Nat)≠0)
    ·rw[if_neg hq2]at hn;cases hn
theorem zHl {s:De.Rd} {tag:Int} {most:Nat} (h:(De.enter s tag).2=false):zA0 G s tag most=((De.enter s tag).1,[]):=by
 have he:=(zJt h).resolve_right id;unfold zA0;rw[rowG_stop (by rw[more_e he];decide),zEq he,if_pos he]
theorem zFO {s s':De.Rd} {tag:Int} {most:Nat} {l:List α} (h:De.more s'=true) (hr:rowG G 0 s' l=rowG G most (De.enter s tag).1 []):zA0 G s tag most=({ s' with e:=3 },[]):=by
 unfold zA0;rw[<-hr,zEU h];have he:({ s' with e:=3 }:De.Rd).e≠0:=(by decide:(3:Nat)≠0);rw[zEq he,if_pos he]
theorem zFN {s s':De.Rd} {tag:Int} {most f:Nat} {l:List α} (h:¬ De.more s'=true) (hr:rowG G f s' l=rowG G most (De.enter s tag).1 []):zA0 G s tag most=(De.leave s',if(De.leave s').e≠0 then []else l):=by
 unfold zA0;rw[<-hr,rowG_stop h]
end
namespace De
theorem rdLen_err28 {l:List Nat} {k:Nat} (h:Tl.rdLen l=.error k):k<=28:=by
 unfold Tl.rdLen at h
 repeat' split at h
 all_goals first
  |(rw[<-Except.error.inj h];decide)
  |cases h
theorem first_err28 {l:List Nat} {k:Nat} (h:Tl.first l=.error k):k<=28:=by
 match l,h with
 |[],h=>rw[<-Except.error.inj h];decide
 |t :: r,h =>
  rw[Tl.first]at h;split at h
  ·rw[<-Except.error.inj h];decide
  ·split at h
   ·rename_i e he
    rw[<-Except.error.inj h];exact rdLen_err28 he
   ·split at h
    ·rw[<-Except.error.inj h];decide
    ·exact absurd h (by simp)
theorem loop_err28 {rec:Nat->List Nat->Except Nat Nat} {one set:Bool} (hr:∀ t b k,rec t b=.error k->k<=28):∀ (f:Nat) (b a:List Nat) (d k:Nat),Tl.loop rec one set f b a d=.error k->k<=28
 |0,_,_,_,_,h=>by rw[Tl.loop]at h;exact absurd h (by simp)
 |f+1,b,a,d,k,h=>by
  rw[Tl.loop]at h;split at h
  ·exact absurd h (by simp)
  ·split at h
   ·rename_i e he
    rw[<-Except.error.inj h];exact first_err28 he
   ·split at h
    ·rw[<-Except.error.inj h];decide
    ·split at h
     ·rename_i e he
      rw[<-Except.error.inj h];exact hr _ _ _ he
     ·split at h
      ·rw[<-Except.error.inj h];decide
      ·exact loop_err28 hr f _ _ _ _ h
theorem within_err28:∀ (L t:Nat) (b:List Nat) (k:Nat),Tl.within L t b=.error k->k<=28
 |0,t,b,k,h=>by rw[<-Except.error.inj h];decide
 |L+1,t,b,k,h=>by
  rw[Tl.within]at h;split at h
  ·split at h
   ·rename_i e he
    rw[<-Except.error.inj h];exact loop_err28 (within_err28 L) _ _ _ _ _ he
   ·exact absurd h (by simp)
  ·exact absurd h (by simp)
theorem levels_err28 {l:List Nat} {k:Nat} (h:Tl.levels l=.error k):k<=28:=by
 unfold Tl.levels at h;split at h
 ·rw[<-Except.error.inj h];decide
 ·split at h
  ·rename_i e he
   rw[<-Except.error.inj h];exact first_err28 he
  ·split at h
   ·rw[<-Except.error.inj h];decide
   ·exact within_err28 _ _ _ _ h
theorem asked_le (l:List Nat) (m:Int):Pt.asked l m<=28:=by
 unfold Pt.asked
 repeat' split
 all_goals decide
end De
open Go.RowKit
def Lev (x:Value) (ys:List Value) (L:List (List Nat)) (w:World):Prop:=Vals w x ys/\Each w ys L/\Whole0 x
def LevS (F:Nat->Prop) (w:World) (x:Value) (L:List (List Nat)):Prop:=∃ ys,Sup F w (Lev x ys L)
theorem LevS.upto {F O:Nat->Prop} {w w':World} {x:Value} {L:List (List Nat)} (h:LevS F w x L) (hu:Upto O w w') (hd:∀ k,F k->¬ O k):LevS F w' x L:=by
 obtain⟨ys,h⟩:=h;exact⟨ys,h.upto hu hd⟩
theorem LevS.nil {F:Nat->Prop} {w:World} (hF:∀ k,F k->k<w.heap.size):LevS F w (.slice none 0 0) []:=⟨[],hF,fun w' _=>⟨Vals.nil w',trivial,fun n c e=>by cases e;exact⟨rfl,rfl⟩⟩⟩
def zAZ (s:De.St):List Int:=(s.op.map fun p=>(p.1:Int)).reverse
def zAI (s:De.St) (k:Nat):List (List Nat):=if k=0 then s.dn else(s.op.reverse.getD (k-1) (0,[])).2
theorem zAJ (s:De.St):(zAZ s).length=s.op.length:=by simp[zAZ]
def Im (W0:World) (F:Nat->Prop) (b:Nat) (rv:Value) (k:Nat):Prop:=Or0 W0 F k/\k≠b/\rv.ownBlock≠some k
structure RowsW (W0:World) (F:Nat->Prop) (b:Nat) (tv rv:Value) (s:De.St) (w:World):Prop where
 rown:∀ k,rv.ownBlock=some k->F k/\k≠b
 deep:s.op.length<=16
 room:0<s.op.length->∃ a n c,rv=.slice a n c/\s.op.length<n
 tags:Sup (Im W0 F b rv) w (fun W=>Ints W tv (zAZ s)/\Whole0 tv)
 rows:∃ n xs,n<=20/\w.ownsRow 0 81 1 rv n xs/\∀ k,k<=s.op.length->LevS (Im W0 F b rv) w (xs.getD k (.slice none 0 0)) (zAI s k)
structure RefW (W0:World) (F:Nat->Prop) (b:Nat) (s:De.St) (w:World):Prop where
 base:W0.grownBy w none
 own:∀ k,F k->W0.heap.size<=k/\k<w.heap.size
 mem:F b
 body:∃ tv rv,w.heap[b]?=some (.cells #[tv,rv,.int .i64 (s.e:Nat)] 59 (0,0))/\(s.e=0->RowsW W0 F b tv rv s w)
def Ext (F:Nat->Prop) (w w':World) (k:Nat):Prop:=F k∨(w.heap.size<=k/\k<w'.heap.size)
def Mut (b:Nat) (rv:Value) (k:Nat):Prop:=k=b∨rv.ownBlock=some k
section
variable {W0 w w':World} {F:Nat->Prop} {b:Nat} {tv rv rv':Value} {s s':De.St}
theorem RefW.orlt (h:RefW W0 F b s w):∀ k,Or0 W0 F k->k<w.heap.size:=zMo h.base (fun k hk=>(h.own k hk).2)
theorem zCh {P:World->Prop} (hb:W0.grownBy w none) (hF:∀ k,F k->W0.heap.size<=k/\k<w.heap.size) (h:Sup (Im W0 F b rv) w P) (hu:Upto (Mut b rv) w w')
  (hr:∀ k,k<w.heap.size->rv'.ownBlock=some k->rv.ownBlock=some k):Sup (Im W0 (Ext F w w') b rv') w' P:=by
 have h1:Sup (Im W0 F b rv) w' P:=h.upto hu (fun k hk hm=>by
  rcases hm with rfl|hm
  ·exact hk.2.1 rfl
  ·exact hk.2.2 hm)
 refine h1.mono (fun k hk=>?_) (fun k hk=>?_)
 ·refine⟨hk.1.imp (fun h=>.inl h) id,hk.2.1,fun e=>hk.2.2 (hr k (h.lt k hk) e)⟩
 ·rcases hk.1 with h2|h2
  ·rcases h2 with h2|h2
   ·exact Nat.lt_of_lt_of_le (hF k h2).2 hu.size
   ·exact h2.2
  ·exact Nat.lt_of_lt_of_le h2 (Nat.le_trans hb.size hu.size)
theorem LevS.keep {x:Value} {L:List (List Nat)} (hb:W0.grownBy w none) (hF:∀ k,F k->W0.heap.size<=k/\k<w.heap.size) (h:LevS (Im W0 F b rv) w x L) (hu:Upto (Mut b rv) w w')
  (hr:∀ k,k<w.heap.size->rv'.ownBlock=some k->rv.ownBlock=some k):LevS (Im W0 (Ext F w w') b rv') w' x L:=by
 obtain⟨ys,h⟩:=h;exact⟨ys,zCh hb hF h hu hr⟩
theorem zAo (hb:W0.grownBy w none) (hF:∀ k,F k->W0.heap.size<=k/\k<w.heap.size) (hs:w.heap.size<=w'.heap.size):∀ k,Ext F w w' k->W0.heap.size<=k/\k<w'.heap.size:=fun k hk=>by
 have:=hb.size;rcases hk with hk|hk
 ·have:=hF k hk;omega
 ·omega
theorem zDB (hb:W0.grownBy w none) (hF:∀ k,F k->W0.heap.size<=k/\k<w.heap.size) (hs:w.heap.size<=w'.heap.size):∀ k,Im W0 (Ext F w w') b rv k->k<w'.heap.size:=fun k hk=>by
 have:=hb.size;rcases hk.1 with h|h
 ·exact(zAo hb hF hs k h).2
 ·omega
theorem Ext.refl_iff (F:Nat->Prop) (w:World) (k:Nat):Ext F w w k↔F k:=⟨fun h=>by
 rcases h with h|h
 ·exact h
 ·omega,fun h=>.inl h⟩
theorem Ext.trans {a b c:World} (h1:a.heap.size<=b.heap.size) (h2:b.heap.size<=c.heap.size) (k:Nat):Ext (Ext F a b) b c k↔Ext F a c k:=by
 unfold Ext;constructor
 ·rintro((h|h)|h)
  ·exact .inl h
  ·exact .inr (by omega)
  ·exact .inr (by omega)
 ·rintro(h|h)
  ·exact .inl (.inl h)
  ·by_cases hk:k<b.heap.size
   ·exact .inl (.inr (by omega))
   ·exact .inr (by omega)
theorem RefW.other {G G':Nat->Prop} (h:RefW W0 F b s w) (hG:∀ k,G k->W0.heap.size<=k) (ht:Turn G G' w w') (ha:Apart G F):RefW W0 F b s w':=by
 have hag:∀ k,k<w.heap.size->¬ G k->w'.heap[k]?=w.heap[k]?:=ht.upto.block
 obtain⟨tv,rv,h1,h2⟩:=h.body;refine⟨ht.upto.base h.base hG,fun k hk=>⟨(h.own k hk).1,Nat.lt_of_lt_of_le (h.own k hk).2 ht.upto.size⟩,h.mem,tv,rv,?_,fun he=>?_⟩
 ·rw[hag b (h.own b h.mem).2 (fun hg=>ha b hg h.mem)];exact h1
 ·have hR:=h2 he;have hi:∀ k,Im W0 F b rv k->¬ G k:=fun k hk hg=>by
   rcases hk.1 with hf|hl
   ·exact ha k hg hf
   ·have:=hG k hg;omega
  refine⟨hR.rown,hR.deep,hR.room,hR.tags.upto ht.upto hi,?_⟩;obtain⟨n,xs,hn,ho,hl⟩:=hR.rows;refine⟨n,xs,hn,?_,fun k hk=>(hl k hk).upto ht.upto hi⟩;refine⟨ho.1,?_⟩;rcases ho.2 with h3|⟨g,cap,cur,rfl,h4,h5,h6⟩
  ·exact .inl h3
  ·exact .inr ⟨g,cap,cur,rfl,h4,(hag g (zAi h5) (fun hg=>ha g hg (hR.rown g rfl).1)).trans h5,h6⟩
end
theorem zGX (xs:List Value) (k:Nat):(xs++[Value.slice none 0 0]).getD k (.slice none 0 0)=xs.getD k (.slice none 0 0):=by
 simp only[List.getD_eq_getElem?_getD];rcases Nat.lt_trichotomy k xs.length with h|h|h
 ·rw[List.getElem?_append_left h]
 ·subst h;simp
 ·rw[List.getElem?_eq_none (by simp;omega),List.getElem?_eq_none (by omega)]
theorem zAL {w:World} {base:Nat} {e:TypeId} {sz:Nat} {v:Value} {n:Nat} {xs:List Value} (h:w.ownsRow base e sz v n xs) {b i:Nat} {u:Value} (hb:v.ownBlock≠some b):(w.setCell ⟨b,i,none⟩ u).ownsRow base e sz v n xs:=by
 refine⟨h.1,?_⟩;rcases h.2 with h1|⟨g,cap,cur,rfl,h2,h3,h4⟩
 ·exact .inl h1
 ·refine .inr ⟨g,cap,cur,rfl,h2,?_,h4⟩;rw[Below.heap_setCell _ _ _ _ (fun e=>hb (by show some g=some b;rw[e]))];exact h3
section
variable {W0 w w':World} {F:Nat->Prop} {b:Nat} {tv rv rv':Value} {s:De.St}
theorem zIw {n:Nat} {xs:List Value} {E:Int} {w2:World} {A:Obj} (hb:W0.grownBy w none) (hF:∀ k,F k->W0.heap.size<=k/\k<w.heap.size) (hm:F b)
  (hc:w.heap[b]?=some (.cells #[tv,rv,.int .i64 E] 59 (0,0))) (hR:RowsW W0 F b tv rv s w) (hn:n<20) (hro:0<s.op.length->s.op.length<n)
  (hl:∀ k,k<=s.op.length->LevS (Im W0 F b rv) w (xs.getD k (.slice none 0 0)) (zAI s k))
  (ho:w2.ownsRow 0 81 1 rv' (n+1) (xs++[.slice none 0 0])) (hg:(w.alloc A).grownBy w2 rv.ownBlock) (hv:rv'.ownBlock=rv.ownBlock∨rv'.ownBlock=some (w.alloc A).heap.size) :
  Upto (Mut b rv) w (w2.setCell ⟨b,1,none⟩ rv')/\(w2.setCell ⟨b,1,none⟩ rv').heap[b]?=some (.cells #[tv,rv',.int .i64 E] 59 (0,0)) /\
   RowsW W0 (Ext F w (w2.setCell ⟨b,1,none⟩ rv')) b tv rv' s (w2.setCell ⟨b,1,none⟩ rv'):=by
 have hal:(w.alloc A).heap.size=w.heap.size+1:=by rw[zAe]
 have hbl:b<w.heap.size:=(hF b hm).2;have hbr:rv.ownBlock≠some b:=fun e=>(hR.rown b e).2 rfl
 have hs2:w.heap.size+1<=w2.heap.size:=by rw[<-hal];exact hg.size
 have hsz:(w2.setCell ⟨b,1,none⟩ rv').heap.size=w2.heap.size:=zAk _ _ _;have hr:∀ k,k<w.heap.size->rv'.ownBlock=some k->rv.ownBlock=some k:=fun k hk e=>by
  rcases hv with h|h
  ·rw[<-h];exact e
  ·rw[h]at e;have:=Option.some.inj e;omega
 have hblk:∀ k,k<w.heap.size->rv.ownBlock≠some k->w2.heap[k]?=w.heap[k]?:=fun k hk hne=>by
  rw[hg.block k (by omega) (fun e=>hne e.symm)]
  show(w.heap.push A)[k]?=_
  rw[Array.getElem?_push_lt hk,Array.getElem?_eq_getElem hk]
 have hu:Upto (Mut b rv) w (w2.setCell ⟨b,1,none⟩ rv'):=⟨hg.os,hg.tape,hg.output,by omega,fun k hk hmu=>by
  rw[Below.heap_setCell _ _ _ _ (fun e=>hmu (.inl e))];exact hblk k hk (fun e=>hmu (.inr e))⟩
 have hbv:rv'.ownBlock≠some b:=fun e=>hbr (hr b hbl e)
 refine⟨hu,?_,?_⟩
 ·have:=zAm (i:=1) ((hblk b hbl hbr).trans hc) rv';simpa using this
 ·have ho':=zAL (i:=1) (u:=rv') ho hbv;refine⟨fun k hk=>⟨?_,fun e=>hbv (e ▸ hk)⟩,hR.deep,(fun h0=>by
   obtain⟨a,g,c,h,_⟩:=zAl ho';exact⟨a,n+1,c,h,by have:=hro h0;omega⟩),zCh hb hF hR.tags hu hr,n+1,_,hn,ho',fun k hk=>?_⟩
  ·rcases hv with h|h
   ·exact .inl (hR.rown k (by rw[<-h];exact hk)).1
   ·rw[h]at hk;have e:=Option.some.inj hk;rcases ho'.2 with⟨h1,_⟩|⟨g,cap,cur,h1,_,h2,_⟩
    ·rw[h1]at h;exact absurd h (by simp[Value.ownBlock])
    ·have hlt:=zAi h2;rw[h1]at h;have e2:g=(w.alloc A).heap.size:=Option.some.inj h;exact .inr ⟨by omega,by omega⟩
  ·rw[zGX];exact(hl k hk).keep hb hF hu hr
theorem zIT {w:World} {base:Nat} {e:TypeId} {g n c:Nat} {xs:List Value} (h:w.ownsRow base e 1 (.slice (some ⟨g,0,none⟩) n c) n xs) {K:Nat} (hK:K<n) (u:Value) :
  (w.setCell ⟨g,K,none⟩ u).ownsRow base e 1 (.slice (some ⟨g,0,none⟩) n c) n (xs.set K u):=by
 refine⟨by simpa using h.1,?_⟩;rcases h.2 with⟨h1,_⟩|⟨g',cap,cur,h1,h2,h3,h4,h5,h6,h7⟩
 ·exact absurd h1 (by simp)
 ·simp only[Value.slice.injEq,Option.some.injEq,Addr.mk.injEq,and_true,true_and]at h1;obtain⟨rfl,rfl⟩:=h1;refine .inr ⟨g,c,cur.setIfInBounds K u,rfl,h2,zAm h3 u,h4,h5,by simpa using h6,?_⟩;rw[Array.toList_setIfInBounds,List.take_set,h7]
theorem zDP (s:De.St) (l:List Nat):zAZ (De.add s l)=zAZ s:=by
 obtain⟨e,op,dn⟩:=s
 match op with
 |[]=>rfl
 |(t,r) :: q=>rfl
theorem zBH (s:De.St) (l:List Nat):(De.add s l).op.length=s.op.length:=by
 obtain⟨e,op,dn⟩:=s
 match op with
 |[]=>rfl
 |(t,r) :: q=>rfl
theorem zLT (s:De.St) (l:List Nat):(De.add s l).e=s.e:=by
 obtain⟨e,op,dn⟩:=s
 match op with
 |[]=>rfl
 |(t,r) :: q=>rfl
theorem zBZ (s:De.St) (l:List Nat) (k:Nat) (hk:k<=s.op.length):zAI (De.add s l) k=if k=s.op.length then zAI s k++[l]else zAI s k:=by
 obtain⟨e,op,dn⟩:=s
 match op with
 |[] =>
  obtain rfl:k=0:=by simpa using hk
  rfl
 |(t,r) :: q =>
  simp only[List.length_cons]at hk
  show zAI ⟨e,(t,r++[l]) :: q,dn⟩ k=_
  unfold zAI;simp only[List.reverse_cons,List.length_cons];by_cases h0:k=0
  ·subst h0;simp
  ·rw[if_neg h0,if_neg h0];by_cases hq:k=q.length+1
   ·subst hq;simp[List.getD_eq_getElem?_getD]
   ·rw[if_neg hq];have:k-1<q.reverse.length:=by simp;omega
    simp only[List.getD_eq_getElem?_getD];rw[List.getElem?_append_left this,List.getElem?_append_left this]
theorem zJ3 {g K n c:Nat} {xs ys:List Value} {x v1:Value} {l:List Nat} {w1:World} {E:Int} (hb:W0.grownBy w none) (hF:∀ k,F k->W0.heap.size<=k/\k<w.heap.size)
  (hc:w.heap[b]?=some (.cells #[tv,.slice (some ⟨g,0,none⟩) n c,.int .i64 E] 59 (0,0))) (hR:RowsW W0 F b tv (.slice (some ⟨g,0,none⟩) n c) s w) (hK:K=s.op.length) (hKn:K<n) (hn:n<=20)
  (ho:w.ownsRow 0 81 1 (.slice (some ⟨g,0,none⟩) n c) n xs) (hl:∀ k,k<=s.op.length->LevS (Im W0 F b (.slice (some ⟨g,0,none⟩) n c)) w (xs.getD k (.slice none 0 0)) (zAI s k))
  (hy:Sup (Im W0 F b (.slice (some ⟨g,0,none⟩) n c)) w (Lev (xs.getD K (.slice none 0 0)) ys (zAI s K))) (hx:Sup (Im W0 F b (.slice (some ⟨g,0,none⟩) n c)) w (fun W=>Bytes W x l/\Whole0 x))
  (h1:FrV w w1 v1 (ys++[x])) :
  Upto (Mut b (.slice (some ⟨g,0,none⟩) n c)) w (w1.setCell ⟨g,K,none⟩ v1)/\(w1.setCell ⟨g,K,none⟩ v1).heap[b]?=some (.cells #[tv,.slice (some ⟨g,0,none⟩) n c,.int .i64 E] 59 (0,0)) /\
   RowsW W0 (Ext F w (w1.setCell ⟨g,K,none⟩ v1)) b tv (.slice (some ⟨g,0,none⟩) n c) (De.add s l) (w1.setCell ⟨g,K,none⟩ v1):=by
 have hgb:g≠b:=(hR.rown g rfl).2;have hFg:=(hR.rown g rfl).1;have hgl:=(hF g hFg).2;have hbl:b<w.heap.size:=zAi hc;have hs1:=h1.grown.size;have hsz:(w1.setCell ⟨g,K,none⟩ v1).heap.size=w1.heap.size:=zAk _ _ _;have hblk:∀ k,k<w.heap.size->k≠g->(w1.setCell ⟨g,K,none⟩ v1).heap[k]?=w.heap[k]?:=fun k hk hne=>by
  rw[Below.heap_setCell _ _ _ _ hne];exact h1.grown.block k hk (by simp)
 have hu:Upto (Mut b (.slice (some ⟨g,0,none⟩) n c)) w (w1.setCell ⟨g,K,none⟩ v1):=⟨h1.grown.os,h1.grown.tape,h1.grown.output,by omega,fun k hk hmu=>hblk k hk (fun e=>hmu (.inr (by rw[e];rfl)))⟩;have hr:∀ k,k<w.heap.size->(Value.slice (some ⟨g,0,none⟩) n c).ownBlock=some k->(Value.slice (some ⟨g,0,none⟩) n c).ownBlock=some k:=fun _ _ h=>h
 have hkx:xs.length=n:=by simpa using ho.1
 have ho1:w1.ownsRow 0 81 1 (.slice (some ⟨g,0,none⟩) n c) n xs:=by
  refine⟨ho.1,?_⟩;rcases ho.2 with h|⟨g',cap,cur,h2,h3,h4,h5⟩
  ·exact .inl h
  ·simp only[Value.slice.injEq,Option.some.injEq,Addr.mk.injEq,and_true,true_and]at h2;obtain⟨rfl,rfl⟩:=h2;exact .inr ⟨g,c,cur,rfl,h3,(h1.grown.block g hgl (by simp)).trans h4,h5⟩
 refine⟨hu,(hblk b hbl (Ne.symm hgb)).trans hc,⟨fun k hk=>?_,by rw[zBH];exact hR.deep,(fun _=>⟨_,n,c,rfl,by rw[zBH];omega⟩),by rw[zDP];exact zCh hb hF hR.tags hu hr,n,xs.set K v1,hn,zIT ho1 hKn v1,fun k hk=>?_⟩⟩
 ·exact⟨.inl (hR.rown k hk).1,(hR.rown k hk).2⟩
 ·rw[zBH]at hk;rw[zBZ s l k hk,List.getD_eq_getElem?_getD,List.getElem?_set];by_cases hkK:k=K
  ·rw[hkK,if_pos hK,if_pos rfl,if_pos (by omega)];have hlt:∀ k,Im W0 (Ext F w (w1.setCell ⟨g,K,none⟩ v1)) b (.slice (some ⟨g,0,none⟩) n c) k->k<(w1.setCell ⟨g,K,none⟩ v1).heap.size:=zDB hb hF hu.size
   have s1:=zCh hb hF hy hu hr;have s2:=zCh hb hF hx hu hr;have hV:Vals (w1.setCell ⟨g,K,none⟩ v1) v1 (ys++[x]):=Vals.own (zAL h1.own (fun e=>by
    rcases h1.own.2 with⟨h,_⟩|⟨g',_,_,h,h2,_⟩
    ·rw[h]at e;exact absurd e (by simp[Value.ownBlock])
    ·rw[h]at e;have:=Option.some.inj e;simp only at this;omega))
   have s3:=zGB hV hlt (fun hp j hj=>by
    obtain⟨a,n',c',e,rfl⟩:=hj;rcases h1.own.2 with⟨h,_⟩|⟨g',_,_,h,h2,h3,_⟩
    ·rw[h]at e;exact absurd e (by simp)
    ·rw[h]at e;simp only[Value.slice.injEq,Option.some.injEq]at e;obtain⟨rfl,_⟩:=e;have:=zAi h3;refine⟨.inl (.inr ⟨h2,(by omega:g'<(w1.setCell ⟨g,K,none⟩ v1).heap.size)⟩),by show g'≠b;omega,fun e=>by have:=Option.some.inj e;simp only at this;omega⟩)
   exact⟨_,((s1.and s2).and s3).map fun W hW=>⟨hW.2,hW.1.1.2.1.append (show Each W [x] [l]from⟨⟨hW.1.2.1,hW.1.2.2⟩,trivial⟩),h1.whole⟩⟩
  ·rw[if_neg (fun e=>hkK e.symm:¬ K=k),if_neg (fun e=>hkK (e.trans hK.symm):¬ k=s.op.length),<-List.getD_eq_getElem?_getD];exact(hl k hk).keep hb hF hu hr
end
def zEg (b:Nat) (w:World):Nat:=match w.cell? ⟨b,1,none⟩with
 |some (.slice _ n _)=>n
 |_=>0
theorem zB5 {b:Nat} {w:World} {a:Option Addr} {n c:Nat} (h:w.cell? ⟨b,1,none⟩=some (.slice a n c)):zEg b w=n:=by rw[zEg,h]
theorem iV:((prog.info? 81).map (fun i=>(i.zero,i.size,i.bytes)))=some (some (.slice none 0 0),1,24):=by kernel_rfl
def NxR (r:Except Nat (Nat×Nat×Nat)):Ending:=match r with
 |.error k=>.returned (.tuple #[.int .i64 0,.int .i64 0,.int .i64 0,.int .i64 (k:Int)])
 |.ok (t,i,n)=>.returned (.tuple #[.int .i64 (t:Int),.int .i64 (i:Int),.int .i64 ((i+n:Nat):Int),.int .i64 0])
theorem zGh (t:Nat) (r:List Nat) (h:Tl.known (t:Int)=true):Tl.first (t :: r)=match Tl.rdLen r with
  |.error e=>.error e
  |.ok (n,k)=>if r.length-k<n then .error 2 else .ok (t,1+k,n):=by
 rw[Tl.first,if_neg (by rw[h];simp)];rfl
theorem zAC {fn:Func} {t u v x:Tmp} (h:fn.results=#[.tmp t,.tmp u,.tmp v,.tmp x]) (tmps:Array Value) (P:Program) (w:World) :
  (results fn tmps).run P w=.ok (.tuple #[tmps.getD t undef,tmps.getD u undef,tmps.getD v undef,tmps.getD x undef]) w:=by
 simp[results,h]
theorem zCp (W:World) (a:Option Addr) (N c q:Nat) (h:2+q<=c):(Instr.sliceAt 33 (.slice a N c) (some (.int .i64 1)) (some (.int .i64 (2+(q:Int)))) none).run prog W=.ok (.slice (subA a 1 c) (1+q) (c-1)) W:=by
 rw[run_sliceAt_slice W 33 _ _ _ _ zFq,run_slice_lh W 33 a N c zFq .i64 .i64 1 (2+(q:Int)) (by decide) (by omega) (by omega),zGG];simp only[Result.andThen,sliced,Nat.mul_one,subA];rw[show(2+(q:Int)).toNat-(1:Int).toNat=1+q by omega];rfl
theorem zI2 (l:List Nat) (k:Nat) (h:k<l.length):Tl.num (l.take (k+1))=256*Tl.num (l.take k)+l.getD k 0:=by
 rw[List.take_add_one,List.getElem?_eq_getElem h,Tl.num,List.foldl_append,<-Tl.num];simp[List.getD_eq_getElem?_getD,List.getElem?_eq_getElem h]
theorem zKp {l:List Nat} (hl:∀ x∈l,x<256) (k:Nat):l.getD k 0<256:=by
 rw[List.getD_eq_getElem?_getD];cases h:l[k]? with
 |none=>exact Nat.zero_lt_succ _
 |some x=>exact hl x (List.mem_of_getElem? h)
theorem zBr (v:Value) (l:List Nat) (w:World) (hB:Bytes w v l) (hl:l.length<=4611686018427387904) :
  Calls prog 92 #[v] w fun e w'=>e=NxR (Tl.first l)/\w.grownBy w' none:=by
 have HR:Hid (∀ r e,Tl.first l=r->e=NxR r->e=NxR (Tl.first l)):=hid (fun r e h h2=>by rw[h];exact h2);obtain⟨R,hR⟩:∃ R,R=NxR (Tl.first l):=⟨_,rfl⟩
 rw[<-hR]at HR ⊢;clear hR;have hB':=hB;obtain⟨hlt,a,sb,so,c,rfl,hc,ha,hcell⟩:=hB'
 match l,hB,hl,hlt,hc,ha,hcell,HR with
 |[],hB,hl,hlt,hc,ha,hcell,HR =>
  have HX:=hid (show Tl.first []=.error 2 from rfl);clear hB hlt ha hcell;go_enter func92,ntmps92
  go_wp2
  ((try simp only[Exit.inBlock,Exit.then]);refine bodyPost_ret (zAC rfl _ _ _) rfl ?_)
  exact⟨HR.out _ _ HX.out rfl,zAa _ _⟩
 |t :: r,hB,hl,hlt,hc,ha,hcell,HR =>
  have ht:=hlt t (by simp);have HKn:=hid (fun W=>zE4 (t:Int) W);have c0:=hcell 0 (by simp);simp only[List.getD_cons_zero,Nat.add_zero]at c0;obtain⟨rfl,hsb⟩:=ha (by simp);by_cases hk:Tl.known (t:Int)=true
  ·rw[hk]at HKn;have HF:=hid (zGh t r hk);clear hk
   match r,hB,hl,hlt,hc,ha,hcell,HR,HF with
   |[],hB,hl,hlt,hc,ha,hcell,HR,HF =>
    have HX:Hid (Tl.first [t]=.error 2):=hid (by rw[HF.out];rfl);clear hB hlt ha hcell HF;go_enter func92,ntmps92
    go_wp2_with (go_at_call 130;refine(HKn.out _).mono ?_;rintro e w2 ⟨rfl,rfl⟩)
    ((try simp only[Exit.inBlock,Exit.then]);refine bodyPost_ret (zAC rfl _ _ _) rfl ?_)
    exact⟨HR.out _ _ HX.out rfl,zAa _ _⟩
   |x :: s,hB,hl,hlt,hc,ha,hcell,HR,HF =>
    obtain⟨n,hn⟩:∃ n,n=s.length:=⟨_,rfl⟩
    have HN:=hid hn;have e2:(t :: x :: s).length=n+2:=by rw[hn];rfl
    have hx:=hlt x (by simp);have c1:=hcell 1 (by simp);simp only[List.getD_cons_zero,List.getD_cons_succ]at c1;have HCs:Hid (∀ j,j<n->w.cell? ⟨sb,so+(2+j),none⟩=some (.int .u8 (s.getD j 0:Nat))):=hid (fun j hj=>by
     have:=hcell (2+j) (by rw[e2];omega);rw[Nat.add_comm 2 j]at this ⊢
     first|(simp;done)|simpa using this)
    have HS8:=hid (show ∀ z∈s,z<256 from fun z hz=>hlt z (by simp[hz]));rw[e2]at hB hc hl ⊢;have HB:=hid hB;clear hB hlt ha hcell e2 hn;by_cases h128:x<128
    ·have HX0:Hid (Tl.first (t :: x :: s)=if n<x then .error 2 else .ok (t,2,x)):=hid (by
      rw[HF.out,Tl.rdLen,if_pos h128]
      show(if(x :: s).length-1<x then _ else _)=_
      rw[show(x :: s).length-1=n by rw[HN.out];rfl])
     clear HF;by_cases hnx:n<x
     ·have HX:Hid (Tl.first (t :: x :: s)=.error 2):=hid (by rw[HX0.out,if_pos hnx]);go_enter func92,ntmps92
      go_wp2_with (go_at_call 130;refine(HKn.out _).mono ?_;rintro e w2 ⟨rfl,rfl⟩)
      ((try simp only[Exit.inBlock,Exit.then]);refine bodyPost_ret (zAC rfl _ _ _) rfl ?_)
      exact⟨HR.out _ _ HX.out rfl,zAa _ _⟩
     ·have HX:Hid (Tl.first (t :: x :: s)=.ok (t,2,x)):=hid (by rw[HX0.out,if_neg hnx]);go_enter func92,ntmps92
      go_wp2_with (go_at_call 130;refine(HKn.out _).mono ?_;rintro e w2 ⟨rfl,rfl⟩)
      ((try simp only[Exit.inBlock,Exit.then]);refine bodyPost_ret (zAC rfl _ _ _) rfl ?_)
      exact⟨HR.out _ _ HX.out (by unfold NxR;congr),zAa _ _⟩
    ·obtain⟨q,hxq⟩:∃ q,x=128+q:=⟨x-128,by omega⟩
     have e128:(x:Int)-128=(q:Int):=by omega
     have HXQ:=hid hxq;clear hxq;have h128g:(128:Int)<=(x:Int):=by omega
     by_cases hq:q=0∨4<q
     ·have HX:Hid (Tl.first (t :: x :: s)=.error 4):=hid (by rw[HF.out,Tl.rdLen,if_neg h128,if_pos (by have:=HXQ.out;omega)]);rcases hq with rfl|hq
      ·go_enter func92,ntmps92
       go_wp2_with (go_at_call 130;refine(HKn.out _).mono ?_;rintro e w2 ⟨rfl,rfl⟩)
       ((try simp only[Exit.inBlock,Exit.then]);refine bodyPost_ret (zAC rfl _ _ _) rfl ?_)
       exact⟨HR.out _ _ HX.out rfl,zAa _ _⟩
      ·have d1:decide ((q:Int)<1)=false:=decide_eq_false (by omega);go_enter func92,ntmps92
       go_wp2_with (go_at_call 130;refine(HKn.out _).mono ?_;rintro e w2 ⟨rfl,rfl⟩)
       ((try simp only[Exit.inBlock,Exit.then]);refine bodyPost_ret (zAC rfl _ _ _) rfl ?_)
       exact⟨HR.out _ _ HX.out rfl,zAa _ _⟩
     ·have d1:decide ((q:Int)<1)=false:=decide_eq_false (by omega);have d4:decide (4<(q:Int))=false:=decide_eq_false (by omega);by_cases hnq:n<q
      ·have HX:Hid (Tl.first (t :: x :: s)=.error 2):=hid (by rw[HF.out,Tl.rdLen,if_neg h128,if_neg (by have:=HXQ.out;omega),if_pos (by rw[<-HN.out];have:=HXQ.out;omega)]);go_enter func92,ntmps92
       go_wp2_with (go_at_call 130;refine(HKn.out _).mono ?_;rintro e w2 ⟨rfl,rfl⟩)
       ((try simp only[Exit.inBlock,Exit.then]);refine bodyPost_ret (zAC rfl _ _ _) rfl ?_)
       exact⟨HR.out _ _ HX.out rfl,zAa _ _⟩
      ·have hqn:q<=n:=by omega
       have hq4:1<=q/\q<=4:=by omega
       obtain⟨m,hm⟩:∃ m,m=Tl.num (s.take q):=⟨_,rfl⟩
       have HM:=hid hm;have HX0:Hid (Tl.first (t :: x :: s)=if Tl.more m≠q then .error 4 else if 65530<m then .error 3 else if n-q<m then .error 2 else .ok (t,2+q,m)):=hid (by
        rw[HF.out,Tl.rdLen,if_neg h128,if_neg (by have:=HXQ.out;omega),if_neg (by rw[<-HN.out];have:=HXQ.out;omega),show x-128=q by have:=HXQ.out;omega,<-hm];by_cases g1:Tl.more m≠q
        ·rw[if_pos g1,if_pos g1]
        ·rw[if_neg g1,if_neg g1];by_cases g2:65530<m
         ·rw[if_pos g2,if_pos g2]
         ·rw[if_neg g2,if_neg g2]
          show(if(x :: s).length-(1+q)<m then _ else _)=_
          rw[show(x :: s).length-(1+q)=n-q by rw[List.length_cons,<-HN.out];omega,show 1+(1+q)=2+q by omega])
       have hsl:(s.take q).length=q:=by rw[List.length_take,<-HN.out];omega
       have hs8:∀ z∈s.take q,z<256:=fun z hz=>HS8.out z (List.mem_of_mem_take hz)
       have hm32:m<4294967296:=by rw[hm];exact De.num_lt4 hs8 (by omega)
       have HLen:=hid (fun W=>zE3 m hm32 W);have hform:=De.lenB_form hs8 (by omega);rw[hsl,<-hm]at hform;have HFo:=hid hform;have HLl:=hid (Tl.lenB_lt m);have HNl:Hid (∀ k,k<=q->Tl.num (s.take k)<4294967296):=hid (fun k hk=>De.num_lt4 (fun z hz=>HS8.out z (List.mem_of_mem_take hz)) (by rw[List.length_take];omega));have HNt:Hid (∀ k,k<q->Tl.num (s.take (k+1))=256*Tl.num (s.take k)+s.getD k 0):=hid (fun k hk=>zI2 s k (by rw[<-HN.out];omega));have HTk:Hid (((x :: s)).take (1+q)=(128+q) :: s.take q):=hid (by rw[Nat.add_comm 1 q,List.take_succ_cons,HXQ.out]);clear hm hsl hs8 hform HF;go_enter func92,ntmps92
       go_wp2_with (go_at_call 130;refine(HKn.out _).mono ?_;rintro e w2 ⟨rfl,rfl⟩)
       go_loopw [6,9] (fun y i wr=>∃ k:Nat,k<=q/\i=.int .i64 k/\y=.int .i64 (Tl.num (s.take k):Nat)/\w2=wr) (fun _ i _=>q-(intOf i).toNat)
       case atStart=>exact⟨0,Nat.zero_le _,rfl,rfl,rfl⟩
       case round =>
        obtain⟨k,hk,rfl,rfl,rfl⟩:=hrel;by_cases hkq:k<q
        ·have hc1:=HCs.out k (by omega);have hz:=HS8.out;have hnb:=HNl.out k hk;have HS:=hid (HNt.out k hkq);have hx8:s.getD k 0<256:=zKp HS8.out k;clear hz;generalize s.getD k 0=z at *;generalize Tl.num (s.take k)=y at *;go_wp2
         go_roundw
         case rel=>exact⟨k+1,by omega,by go_num,by rw[HS.out];go_num,trivial⟩
         case measure=>simp[intOf];omega
        ·obtain rfl:k=q:=by omega
         have HC:=hid (fun W x B (hx:Bytes W x B)=>zAS (P:=prog) hx 33 5 9 underlying33 underlying5 underlying9);have HBu:Hid (Bytes w2 (.slice (subA (some ⟨sb,so,none⟩) 1 c) (1+k) (c-1)) ((128+k) :: s.take k)):=hid (by
          have:=(HB.out.from 1 (by omega)).to (1+k) (by omega);rw[List.drop_succ_cons,List.drop_zero,HTk.out]at this;exact this)
         have hbq:=zEM (a:=Tl.lenB m) (b:=(128+k) :: s.take k) HLl.out HBu.out.lt;rw[<-HM.out];by_cases g1:Tl.more m=k
         ·have HBo:Hid ((!((strOf (Tl.lenB m)).toList==(strOf ((128+k) :: s.take k)).toList))=false):=hid (by rw[hbq,decide_eq_true (HFo.out.2 g1)];rfl);have HX1:=HX0.out;rw[if_neg (fun h=>h g1)]at HX1;have HX2:=hid HX1;clear HX1 HX0 hbq g1;by_cases g2:65530<m
          ·have HX:Hid (Tl.first (t :: x :: s)=.error 3):=hid (by rw[HX2.out,if_pos g2]);clear HX2;go_wp2
           refine zCu _ (.slice (some ⟨sb,so,none⟩) (n+2) c) (.slice (subA (some ⟨sb,so,none⟩) 1 c) (1+k) (c-1)) (m:Int) (2+(k:Int)) (strOf (Tl.lenB m)) (strOf ((128+k) :: s.take k)) (Tl.lenB m) w2 w2 _ rfl rfl rfl rfl (fun W _=>(HLen.out W).mono (fun e w' ⟨v,h1,h2⟩=>⟨v,h1,h2.grown,Bytes.own h2.own HLl.out⟩)) (fun W hW=>HC.out W _ _ (HBu.out.grown hW)) (fun W x hx=>HC.out W x _ hx) (fun W=>zCp W _ _ c k (by omega)) ⟨rfl,rfl,rfl,Nat.le_refl _,fun _ _ _=>rfl⟩ (fun us w4 hg4=>?_);simp only[zAA,zAN,Act.put,List.setIfInBounds_toArray,List.set_cons_succ,List.set_cons_zero];rw[HBo.out];have HG4:=hid hg4;have c04:w4.cell? ⟨sb,so,none⟩=some (.int .u8 (t:Nat)):=by rw[World.cell?_of_block (hg4.block sb hsb (by simp))];exact c0
           clear hg4;go_wp2
           ((try simp only[Exit.inBlock,Exit.then]);refine bodyPost_ret (zAC rfl _ _ _) rfl ?_)
           exact⟨HR.out _ _ HX.out rfl,HG4.out⟩
          ·by_cases g3:n-k<m
           ·have HX:Hid (Tl.first (t :: x :: s)=.error 2):=hid (by rw[HX2.out,if_neg g2,if_pos g3]);clear HX2;go_wp2
            refine zCu _ (.slice (some ⟨sb,so,none⟩) (n+2) c) (.slice (subA (some ⟨sb,so,none⟩) 1 c) (1+k) (c-1)) (m:Int) (2+(k:Int)) (strOf (Tl.lenB m)) (strOf ((128+k) :: s.take k)) (Tl.lenB m) w2 w2 _ rfl rfl rfl rfl (fun W _=>(HLen.out W).mono (fun e w' ⟨v,h1,h2⟩=>⟨v,h1,h2.grown,Bytes.own h2.own HLl.out⟩)) (fun W hW=>HC.out W _ _ (HBu.out.grown hW)) (fun W x hx=>HC.out W x _ hx) (fun W=>zCp W _ _ c k (by omega)) ⟨rfl,rfl,rfl,Nat.le_refl _,fun _ _ _=>rfl⟩ (fun us w4 hg4=>?_);simp only[zAA,zAN,Act.put,List.setIfInBounds_toArray,List.set_cons_succ,List.set_cons_zero];rw[HBo.out];have HG4:=hid hg4;have c04:w4.cell? ⟨sb,so,none⟩=some (.int .u8 (t:Nat)):=by rw[World.cell?_of_block (hg4.block sb hsb (by simp))];exact c0
            clear hg4;go_wp2
            ((try simp only[Exit.inBlock,Exit.then]);refine bodyPost_ret (zAC rfl _ _ _) rfl ?_)
            exact⟨HR.out _ _ HX.out rfl,HG4.out⟩
           ·have HX:Hid (Tl.first (t :: x :: s)=.ok (t,2+k,m)):=hid (by rw[HX2.out,if_neg g2,if_neg g3]);clear HX2;go_wp2
            refine zCu _ (.slice (some ⟨sb,so,none⟩) (n+2) c) (.slice (subA (some ⟨sb,so,none⟩) 1 c) (1+k) (c-1)) (m:Int) (2+(k:Int)) (strOf (Tl.lenB m)) (strOf ((128+k) :: s.take k)) (Tl.lenB m) w2 w2 _ rfl rfl rfl rfl (fun W _=>(HLen.out W).mono (fun e w' ⟨v,h1,h2⟩=>⟨v,h1,h2.grown,Bytes.own h2.own HLl.out⟩)) (fun W hW=>HC.out W _ _ (HBu.out.grown hW)) (fun W x hx=>HC.out W x _ hx) (fun W=>zCp W _ _ c k (by omega)) ⟨rfl,rfl,rfl,Nat.le_refl _,fun _ _ _=>rfl⟩ (fun us w4 hg4=>?_);simp only[zAA,zAN,Act.put,List.setIfInBounds_toArray,List.set_cons_succ,List.set_cons_zero];rw[HBo.out];have HG4:=hid hg4;have c04:w4.cell? ⟨sb,so,none⟩=some (.int .u8 (t:Nat)):=by rw[World.cell?_of_block (hg4.block sb hsb (by simp))];exact c0
            clear hg4;go_wp2
            ((try simp only[Exit.inBlock,Exit.then]);refine bodyPost_ret (zAC rfl _ _ _) rfl ?_)
            exact⟨HR.out _ _ HX.out (by unfold NxR;congr),HG4.out⟩
         ·have HBo:Hid ((!((strOf (Tl.lenB m)).toList==(strOf ((128+k) :: s.take k)).toList))=true):=hid (by rw[hbq,decide_eq_false (fun h=>g1 (HFo.out.1 h))];rfl);have HX:Hid (Tl.first (t :: x :: s)=.error 4):=hid (by rw[HX0.out,if_pos g1]);clear HX0 hbq g1;go_wp2
          refine zCu _ (.slice (some ⟨sb,so,none⟩) (n+2) c) (.slice (subA (some ⟨sb,so,none⟩) 1 c) (1+k) (c-1)) (m:Int) (2+(k:Int)) (strOf (Tl.lenB m)) (strOf ((128+k) :: s.take k)) (Tl.lenB m) w2 w2 _ rfl rfl rfl rfl (fun W _=>(HLen.out W).mono (fun e w' ⟨v,h1,h2⟩=>⟨v,h1,h2.grown,Bytes.own h2.own HLl.out⟩)) (fun W hW=>HC.out W _ _ (HBu.out.grown hW)) (fun W x hx=>HC.out W x _ hx) (fun W=>zCp W _ _ c k (by omega)) ⟨rfl,rfl,rfl,Nat.le_refl _,fun _ _ _=>rfl⟩ (fun us w4 hg4=>?_);simp only[zAA,zAN,Act.put,List.setIfInBounds_toArray,List.set_cons_succ,List.set_cons_zero];rw[HBo.out];have HG4:=hid hg4;have c04:w4.cell? ⟨sb,so,none⟩=some (.int .u8 (t:Nat)):=by rw[World.cell?_of_block (hg4.block sb hsb (by simp))];exact c0
          clear hg4;go_wp2
          ((try simp only[Exit.inBlock,Exit.then]);refine bodyPost_ret (zAC rfl _ _ _) rfl ?_)
          exact⟨HR.out _ _ HX.out rfl,HG4.out⟩
  ·have hkf:Tl.known (t:Int)=false:=by simpa using hk
   have HX:Hid (Tl.first (t :: r)=.error 5):=hid (by rw[Tl.first,if_pos hkf]);rw[hkf]at HKn;obtain⟨n,hn⟩:∃ n,n=r.length:=⟨_,rfl⟩
   rw[show(t :: r).length=n+1 by rw[hn];rfl]at hc hl ⊢;clear hB hlt ha hcell hk hkf hn;go_enter func92,ntmps92
   go_wp2_with (go_at_call 130;refine(HKn.out _).mono ?_;rintro e w2 ⟨rfl,rfl⟩)
   ((try simp only[Exit.inBlock,Exit.then]);refine bodyPost_ret (zAC rfl _ _ _) rfl ?_)
   exact⟨HR.out _ _ HX.out rfl,zAa _ _⟩
end Go.Proofs.YtijkaknggdaajaaGreatDoor
