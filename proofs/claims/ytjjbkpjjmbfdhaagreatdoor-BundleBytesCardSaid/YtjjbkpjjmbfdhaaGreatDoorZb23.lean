import Derived.Test.YtjjbkpjjmbfdhaaGreatDoorZb00
import Derived.Test.YtjjbkpjjmbfdhaaGreatDoorZb08
import Derived.Test.YtjjbkpjjmbfdhaaGreatDoorZb17
set_option linter.unusedVariables false
set_option linter.unusedSimpArgs false
namespace Go.Proofs.YtjjbkpjjmbfdhaaGreatDoor
namespace De
structure Val where
 kind:Int
 n:Int
 is:Bool
 b:List Nat
 t:List Nat
def none0:Val:=⟨0,0,false,[],[]⟩
def body (v:Val):Except Nat (Nat×List Nat) :=
 if v.kind=3 then .ok (2,Wh.body v.n) else if v.kind=4 then .ok (10,Wh.body v.n) else
 if v.kind=5 then .ok (1,[if v.is=true then 255 else 0]) else if v.kind=6 then .ok (4,v.b) else
 if v.kind=7 then (if Pt.asked v.t v.n=0 then .ok (12,v.t) else .error (Pt.asked v.t v.n)) else
 if v.kind=8 then (match Od.parse v.t with
  |.error e=>.error e
  |.ok l=>.ok (6,Od.put l)) else
 if v.kind=9 then (if v.n<0∨253402300799<v.n then .error 1 else .ok (24,Cal.text (Cal.of v.n.toNat))) else
 if v.n<0∨32767<v.n then .error 1 else .ok (3,Pt.flags v.n.toNat)
def said (k least most:Int) (b:List Nat):Except Nat Val :=
 if k=3∨k=4 then (match Wh.get b with
  |.error e=>.error e
  |.ok n=>if n<least∨most<n then .error 1 else .ok { none0 with n:=n }) else
 if k=5 then (if b.length=0 then .error 2 else if 1<b.length∨(b.getD 0 0≠0∧b.getD 0 0≠255) then .error 4 else .ok { none0 with is:=decide (b.getD 0 0=255) }) else
 if k=6 then (if (b.length:Int)<least then .error 2 else if most<(b.length:Int) then .error 3 else .ok { none0 with b:=b }) else
 if k=7 then (if Pt.asked b most=0 then .ok { none0 with t:=b } else .error (Pt.asked b most)) else
 if k=8 then (match Od.get b with
  |.error e=>.error e
  |.ok l=>.ok { none0 with t:=Od.text l }) else
 if k=9 then (match Cal.get b with
  |.error e=>.error e
  |.ok n=>.ok { none0 with n:=(n:Int) }) else
 match Pt.mask b with
  |.error e=>.error e
  |.ok n=>.ok { none0 with n:=(n:Int) }
def I64 (n:Int):Prop:=-9223372036854775808≤n∧n≤9223372036854775807
structure St where
 e:Nat
 op:List (Nat×List (List Nat))
 dn:List (List Nat)
def St.zero:St:=⟨0,[],[]⟩
def add (s:St) (x:List Nat):St :=
 match s.op with
 |[]=>{ s with dn:=s.dn++[x] }
 |(t,l) :: r=>{ s with op:=(t,l++[x]) :: r }
def put (s:St) (t:Nat) (b:List Nat):St:=if 65530<b.length then { s with e:=3 } else add s (Tl.elem t b)
def opn (s:St) (t:Int):St :=
 if Tl.made t=false then { s with e:=5 } else if 16≤s.op.length then { s with e:=6 } else { s with op:=(t.toNat,[]) :: s.op }
def cls (s:St):St :=
 match s.op with
 |[]=>{ s with e:=24 }
 |(t,l) :: r=>put { s with op:=r } t (if t=49 then Pt.sort l else l).flatten
def raw (s:St) (b:List Nat):St :=
 match Tl.levels b with
 |.error e=>{ s with e:=e }
 |.ok _=>add s b
def plainV (s:St) (v:Val):St :=
 match body v with
 |.error e=>{ s with e:=e }
 |.ok (t,b)=>put s t b
def step (s:St) (v:Val):St :=
 if s.e≠0 then s else if v.kind=1 then opn s v.n else if v.kind=2 then cls s else if v.kind=11 then raw s v.b else plainV s v
def done (s:St):Except Nat (List Nat) :=
 if s.e≠0 then .error s.e else if s.op≠[] then .error 24 else if 65536<s.dn.flatten.length then .error 3 else .ok s.dn.flatten
def fail (s:St) (n:Nat):St:=if s.e=0 then { s with e:=n } else s
structure Rd where
 e:Nat
 top:List Nat
 left:List (List Nat)
def start (b:List Nat):Rd:=⟨match Tl.levels b with
 |.error e=>e
 |.ok _=>0,b,[]⟩
def next (s:Rd) (tag:Int):Rd×Option (List Nat×List Nat) :=
 if s.e≠0 then (s,none) else match Tl.first s.top with
  |.error e=>({ s with e:=e },none)
  |.ok (t,i,n)=>if tag≠0∧(t:Int)≠tag then ({ s with e:=5 },none) else ({ s with top:=s.top.drop (i+n) },some ((s.top.drop i).take n,s.top.take (i+n)))
def more (s:Rd):Bool:=decide (s.e=0)&&decide (s.top≠[])
def enter (s:Rd) (tag:Int):Rd×Bool :=
 if s.e≠0 then (s,false) else if s.top≠[]∧Tl.made tag=false then ({ s with e:=5 },false) else match next s tag with
  |(s2,none)=>(s2,false)
  |(s2,some (b,_))=>({ s2 with top:=b,left:=s2.top :: s2.left },true)
def leave (s:Rd):Rd :=
 if s.e≠0 then s else match s.left with
  |[]=>{ s with e:=24 }
  |b :: r=>if s.top≠[] then { s with e:=4 } else { s with top:=b,left:=r }
def tagOf (k:Int):Int:=if k=3 then 2 else if k=4 then 10 else if k=5 then 1 else if k=6 then 4 else if k=7 then 12 else if k=8 then 6 else if k=9 then 24 else 3
def ask (s:Rd) (k tag least most:Int):Rd×Val :=
 if s.e≠0 then (s,none0) else if k=1 then ((enter s tag).1,{ none0 with is:=(enter s tag).2 }) else if k=2 then (leave s,none0) else
 if k=11 then (match next s 0 with
  |(s2,none)=>(s2,none0)
  |(s2,some (_,b))=>(s2,{ none0 with b:=b })) else
 match next s (tagOf k) with
  |(s2,none)=>(s2,none0)
  |(s2,some (b,_))=>match said k least most b with
   |.error e=>({ s2 with e:=e },none0)
   |.ok v=>(s2,v)
def fin (s:Rd):Nat:=if s.e≠0 then s.e else if s.left≠[] then 24 else if s.top≠[] then 4 else 0
theorem body_tag {v:Val} {t:Nat} {b:List Nat} (hk:3≤v.kind∧v.kind≤10) (h:body v=.ok (t,b)):(t:Int)=tagOf v.kind∧Tl.made t=false∧Tl.known t=true:=by
 have pr:∀ {a c:Nat} {x y:List Nat},(Except.ok (a,x):Except Nat (Nat×List Nat))=.ok (c,y)→a=c∧x=y:=fun e=>Prod.mk.inj (Except.ok.inj e)
 obtain ⟨k,n,is,vb,vt⟩:=v
 unfold body at h
 simp only at *
 unfold tagOf
 by_cases e3:k=3
 ·subst e3;rw[if_pos rfl] at h;obtain ⟨rfl,_⟩:=pr h;exact ⟨rfl,by decide,by decide⟩
 rw[if_neg e3] at h ⊢
 by_cases e4:k=4
 ·subst e4;rw[if_pos rfl] at h;obtain ⟨rfl,_⟩:=pr h;exact ⟨rfl,by decide,by decide⟩
 rw[if_neg e4] at h ⊢
 by_cases e5:k=5
 ·subst e5;rw[if_pos rfl] at h;obtain ⟨rfl,_⟩:=pr h;exact ⟨rfl,by decide,by decide⟩
 rw[if_neg e5] at h ⊢
 by_cases e6:k=6
 ·subst e6;rw[if_pos rfl] at h;obtain ⟨rfl,_⟩:=pr h;exact ⟨rfl,by decide,by decide⟩
 rw[if_neg e6] at h ⊢
 by_cases e7:k=7
 ·subst e7
  rw[if_pos rfl] at h
  by_cases ha:Pt.asked vt n=0
  ·rw[if_pos ha] at h;obtain ⟨rfl,_⟩:=pr h;exact ⟨rfl,by decide,by decide⟩
  ·rw[if_neg ha] at h;exact absurd h (by simp)
 rw[if_neg e7] at h ⊢
 by_cases e8:k=8
 ·subst e8
  rw[if_pos rfl] at h
  cases hp:Od.parse vt with
  |error e=>rw[hp] at h;exact absurd h (by simp)
  |ok l=>rw[hp] at h;obtain ⟨rfl,_⟩:=pr h;exact ⟨rfl,by decide,by decide⟩
 rw[if_neg e8] at h ⊢
 by_cases e9:k=9
 ·subst e9
  rw[if_pos rfl] at h
  by_cases ha:n<0∨253402300799<n
  ·rw[if_pos ha] at h;exact absurd h (by simp)
  ·rw[if_neg ha] at h;obtain ⟨rfl,_⟩:=pr h;exact ⟨rfl,by decide,by decide⟩
 rw[if_neg e9] at h ⊢
 by_cases ha:n<0∨32767<n
 ·rw[if_pos ha] at h;exact absurd h (by simp)
 ·rw[if_neg ha] at h;obtain ⟨rfl,_⟩:=pr h;exact ⟨rfl,by decide,by decide⟩
theorem next_elem {t:Nat} {b r:List Nat} {L:List (List Nat)} (ht:Tl.known t=true) (hb:b.length≤65530) :
  next ⟨0,Tl.elem t b++r,L⟩ (t:Int)=(⟨0,r,L⟩,some (b,Tl.elem t b)):=by
 unfold next
 rw[if_neg (fun h=>h rfl)]
 simp only[Tl.first_ok t b r ht hb]
 rw[if_neg (by intro h;exact h.2 rfl),Tl.elem_rest,Tl.elem_body]
 have hl:=Tl.elem_len t b
 rw[←hl,List.take_left' rfl]
end De
namespace De
theorem body_len {v:Val} {t:Nat} {b:List Nat} (hb:v.b.length≤300) (ht:v.t.length≤300) (h:body v=.ok (t,b)):b.length≤300:=by
 have pr:∀ {a c:Nat} {x y:List Nat},(Except.ok (a,x):Except Nat (Nat×List Nat))=.ok (c,y)→x=y:=fun e=>(Prod.mk.inj (Except.ok.inj e)).2
 obtain ⟨k,n,is,vb,vt⟩:=v
 unfold body at h
 simp only at *
 have hw:=Wh.body_len n
 by_cases e3:k=3
 ·rw[if_pos e3] at h;rw[←pr h];omega
 rw[if_neg e3] at h
 by_cases e4:k=4
 ·rw[if_pos e4] at h;rw[←pr h];omega
 rw[if_neg e4] at h
 by_cases e5:k=5
 ·rw[if_pos e5] at h;rw[←pr h];simp
 rw[if_neg e5] at h
 by_cases e6:k=6
 ·rw[if_pos e6] at h;rw[←pr h];exact hb
 rw[if_neg e6] at h
 by_cases e7:k=7
 ·rw[if_pos e7] at h
  by_cases ha:Pt.asked vt n=0
  ·rw[if_pos ha] at h;rw[←pr h];exact ht
  ·rw[if_neg ha] at h;exact absurd h (by simp)
 rw[if_neg e7] at h
 by_cases e8:k=8
 ·rw[if_pos e8] at h
  cases hp:Od.parse vt with
  |error e=>rw[hp] at h;exact absurd h (by simp)
  |ok l =>
   rw[hp] at h
   rw[←pr h]
   have hr:=((Od.right_iff l).1 (Od.parse_ok hp).2).1
   have h1:=Od.rest_len (l.drop 2)
   have h2:=Od.septUpto_len (40*(l.getD 0 0).toNat+(l.getD 1 0).toNat) 6
   rw[List.length_drop] at h1
   show (Od.septUpto _ 6++_).length≤_
   rw[List.length_append]
   omega
 rw[if_neg e8] at h
 by_cases e9:k=9
 ·rw[if_pos e9] at h
  by_cases ha:n<0∨253402300799<n
  ·rw[if_pos ha] at h;exact absurd h (by simp)
  ·rw[if_neg ha] at h;rw[←pr h,Cal.text_len];decide
 rw[if_neg e9] at h
 by_cases ha:n<0∨32767<n
 ·rw[if_pos ha] at h;exact absurd h (by simp)
 ·rw[if_neg ha] at h;rw[←pr h];have:=Pt.flags_len n.toNat;omega
theorem parse_err {l:List Nat} {e:Nat} (h:Od.parse l=.error e):e≠0:=by
 intro h0
 subst h0
 unfold Od.parse at h
 split at h
 ·exact absurd (Except.error.inj h) (by decide)
 ·split at h
  ·exact absurd h (by simp)
  ·exact absurd (Except.error.inj h) (by decide)
theorem body_err {v:Val} {e:Nat} (h:body v=.error e):e≠0:=by
 obtain ⟨k,n,is,vb,vt⟩:=v
 unfold body at h
 simp only at h
 by_cases e3:k=3
 ·rw[if_pos e3] at h;exact absurd h (by simp)
 rw[if_neg e3] at h
 by_cases e4:k=4
 ·rw[if_pos e4] at h;exact absurd h (by simp)
 rw[if_neg e4] at h
 by_cases e5:k=5
 ·rw[if_pos e5] at h;exact absurd h (by simp)
 rw[if_neg e5] at h
 by_cases e6:k=6
 ·rw[if_pos e6] at h;exact absurd h (by simp)
 rw[if_neg e6] at h
 by_cases e7:k=7
 ·rw[if_pos e7] at h
  by_cases ha:Pt.asked vt n=0
  ·rw[if_pos ha] at h;exact absurd h (by simp)
  ·rw[if_neg ha] at h;rw[←Except.error.inj h];exact ha
 rw[if_neg e7] at h
 by_cases e8:k=8
 ·rw[if_pos e8] at h
  cases hp:Od.parse vt with
  |error e2=>rw[hp] at h;rw[←Except.error.inj h];exact parse_err hp
  |ok l=>rw[hp] at h;exact absurd h (by simp)
 rw[if_neg e8] at h
 by_cases e9:k=9
 ·rw[if_pos e9] at h
  by_cases ha:n<0∨253402300799<n
  ·rw[if_pos ha] at h;rw[←Except.error.inj h];decide
  ·rw[if_neg ha] at h;exact absurd h (by simp)
 rw[if_neg e9] at h
 by_cases ha:n<0∨32767<n
 ·rw[if_pos ha] at h;rw[←Except.error.inj h];decide
 ·rw[if_neg ha] at h;exact absurd h (by simp)
def Fit (v:Val):Prop:=(3≤v.kind∧v.kind≤10)∧I64 v.n∧v.b.length≤300∧v.t.length≤300
def elemOf (v:Val):List Nat:=match body v with
 |.error _=>[]
 |.ok (t,b)=>Tl.elem t b
def has (v:Val):Bool:=match body v with
 |.error _=>false
 |.ok _=>true
theorem has_ok {v:Val} (h:has v=true):∃ t b,body v=.ok (t,b):=by
 unfold has at h
 cases hb:body v with
 |error e=>rw[hb] at h;exact absurd h (by simp)
 |ok p=>exact ⟨p.1,p.2,rfl⟩
theorem elemOf_ok {v:Val} {t:Nat} {b:List Nat} (h:body v=.ok (t,b)):elemOf v=Tl.elem t b:=by
 unfold elemOf;rw[h]
theorem step_plain {s:St} {v:Val} (hf:Fit v) (he:s.e=0):step s v=if has v=true then add s (elemOf v) else step s v:=by
 by_cases h:has v=true
 ·rw[if_pos h]
  obtain ⟨t,b,hb⟩:=has_ok h
  have hl:=body_len hf.2.2.1 hf.2.2.2 hb
  have hk:=hf.1
  unfold step
  rw[if_neg (by rw[he];decide),if_neg (by omega),if_neg (by omega),if_neg (by omega),plainV,hb]
  show put s t b=_
  rw[put,if_neg (by omega),elemOf_ok hb]
 ·rw[if_neg h]
end De
namespace De
theorem strOf_at (l:List Nat) (i:Nat) (h:i<l.length):(strOf l)[i]! = UInt8.ofNat (l.getD i 0):=by
 have hs:i<(strOf l).size:=by rw[strOf_size];exact h
 rw[getElem!_pos (strOf l) i hs,List.getD_eq_getElem?_getD,List.getElem?_eq_getElem h]
 show ((l.map UInt8.ofNat).toArray)[i]'(by simpa using h)=_
 rw[List.getElem_toArray,List.getElem_map]
 rfl
theorem ne_at {x y:Nat} (hx:x<256) (hy:y<256):(UInt8.ofNat x != UInt8.ofNat y)=decide (x≠y):=by
 rw[Bool.eq_iff_iff]
 simp only[bne_iff_ne,ne_eq,decide_eq_true_eq]
 refine not_congr ⟨fun h=>?_,fun h=>by rw[h]⟩
 have:=congrArg UInt8.toNat h
 rw[UInt8.toNat_ofNat',UInt8.toNat_ofNat',Nat.mod_eq_of_lt hx,Nat.mod_eq_of_lt hy] at this
 exact this
theorem lt_at {x y:Nat} (hx:x<256) (hy:y<256):(UInt8.ofNat x<UInt8.ofNat y)↔x<y:=by
 rw[UInt8.lt_iff_toNat_lt,UInt8.toNat_ofNat',UInt8.toNat_ofNat',Nat.mod_eq_of_lt hx,Nat.mod_eq_of_lt hy]
theorem lex_at:∀ (a b:List Nat) (i:Nat),(∀ j,j<i→a.getD j 0=b.getD j 0)→i≤a.length→i≤b.length →
  (i<a.length→i<b.length→a.getD i 0≠b.getD i 0→Cal.lex a b=decide (a.getD i 0<b.getD i 0)) ∧
  (i=a.length∨i=b.length→Cal.lex a b=decide (a.length<b.length))
 |[],[],i,_,ha,_=>⟨fun h=>absurd h (by simp),fun _=>by simp[Cal.lex]⟩
 |[],y :: s,i,_,ha,_=>⟨fun h=>absurd h (by simp),fun _=>by simp[Cal.lex]⟩
 |x :: r,[],i,_,_,hb=>⟨fun _ h=>absurd h (by simp),fun _=>by simp[Cal.lex]⟩
 |x :: r,y :: s,0,_,_,_=>⟨fun _ _ h=>by
   simp only[List.getD_cons_zero] at h ⊢
   rw[Cal.lex,if_neg h],fun h=>by simp at h⟩
 |x :: r,y :: s,i+1,hj,ha,hb=>by
  have e:x=y:=by simpa using hj 0 (by omega)
  subst e
  have ih:=lex_at r s i (fun j h=>by simpa using hj (j+1) (by omega)) (by simpa using ha) (by simpa using hb)
  simp only[List.getD_cons_succ,List.length_cons] at ih ⊢
  rw[Cal.lex,if_pos rfl]
  refine ⟨fun h1 h2 h3=>ih.1 (by omega) (by omega) h3,fun h=>?_⟩
  rw[ih.2 (by omega)]
  simp
theorem cmp_lex {a b:List Nat} (ha:∀ x∈a,x<256) (hb:∀ x∈b,x<256):decide (Tl.cmpB a b<0)=Cal.lex a b:=by
 have ga:∀ i,a.getD i 0<256:=fun i=>by
  rw[List.getD_eq_getElem?_getD]
  cases h:a[i]? with
  |none=>exact Nat.zero_lt_succ _
  |some x=>exact ha x (List.mem_of_getElem? h)
 have gb:∀ i,b.getD i 0<256:=fun i=>by
  rw[List.getD_eq_getElem?_getD]
  cases h:b[i]? with
  |none=>exact Nat.zero_lt_succ _
  |some x=>exact hb x (List.mem_of_getElem? h)
 unfold Tl.cmpB Extern.BytealgCompare.cmp
 rw[strOf_size,strOf_size]
 have pe:∀ i,i<min a.length b.length→((strOf a)[i]! != (strOf b)[i]!)=decide (a.getD i 0≠b.getD i 0):=fun i h=>by
  rw[strOf_at a i (by omega),strOf_at b i (by omega),ne_at (ga i) (gb i)]
 cases hf:(List.range (min a.length b.length)).find? fun i=>(strOf a)[i]! != (strOf b)[i]! with
 |none =>
  rw[List.find?_range_eq_none] at hf
  have hj:∀ j,j<min a.length b.length→a.getD j 0=b.getD j 0:=fun j h=>by
   have:=hf j h
   rw[pe j h] at this
   simpa using this
  have hl:=(lex_at a b (min a.length b.length) hj (by omega) (by omega)).2 (by omega)
  rw[hl]
  show decide ((if a.length<b.length then (-1:Int) else if a.length > b.length then 1 else 0)<0)=_
  by_cases h1:a.length<b.length
  ·rw[if_pos h1];simp[h1]
  ·rw[if_neg h1];split <;> simp[h1]
 |some i =>
  rw[List.find?_range_eq_some] at hf
  obtain ⟨h1,h2,h3⟩:=hf
  have hi:i<min a.length b.length:=List.mem_range.1 h2
  rw[pe i hi] at h1
  have hj:∀ j,j<i→a.getD j 0=b.getD j 0:=fun j h=>by
   have:=h3 j h
   rw[pe j (by omega)] at this
   simpa using this
  have hl:=(lex_at a b i hj (by omega) (by omega)).1 (by omega) (by omega) (by simpa using h1)
  rw[hl]
  show decide ((if (strOf a)[i]!<(strOf b)[i]! then (-1:Int) else 1)<0)=_
  rw[strOf_at a i (by omega),strOf_at b i (by omega)]
  by_cases h:a.getD i 0<b.getD i 0
  ·rw[if_pos ((lt_at (ga i) (gb i)).2 h)];simp only[h];decide
  ·rw[if_neg (fun h2=>h ((lt_at (ga i) (gb i)).1 h2))];simp only[h];decide
theorem loop_less {rec1 rec2:Nat→List Nat→Except Nat Nat} (hr:∀ t b,rec2 t b=.error 6∨rec2 t b=rec1 t b) (one set:Bool) :
  ∀ f b ah d,Tl.loop rec2 one set f b ah d=.error 6∨Tl.loop rec2 one set f b ah d=Tl.loop rec1 false set f b ah d
 |0,_,_,_=>.inr rfl
 |f+1,b,ah,d=>by
  rw[Tl.loop,Tl.loop]
  by_cases hb:b=[]
  ·rw[if_pos hb,if_pos hb];exact .inr rfl
  rw[if_neg hb,if_neg hb]
  cases hf:Tl.first b with
  |error e=>exact .inr rfl
  |ok p =>
   obtain ⟨t,i,n⟩:=p
   show (if one=true then _ else _)=_∨(if one=true then _ else _)=(if false=true then _ else _)
   cases one
   ·rw[if_neg (by decide),if_neg (by decide)]
    rcases hr t ((b.drop i).take n) with h|h
    ·rw[h];exact .inl rfl
    ·rw[h]
     cases hm:rec1 t ((b.drop i).take n) with
     |error e=>exact .inr rfl
     |ok m =>
      show (if _ then _ else _)=_∨(if _ then _ else _)=(if _ then _ else _)
      by_cases hs:(set&&decide (Tl.cmpB (b.take (i+n)) ah<0))=true
      ·rw[if_pos hs,if_pos hs];exact .inr rfl
      ·rw[if_neg hs,if_neg hs];exact loop_less hr false set f _ _ _
   ·rw[if_pos rfl];exact .inl rfl
theorem within_less:∀ k t b,Tl.within k t b=.error 6∨Tl.within k t b=Tl.within (k+1) t b
 |0,_,_=>.inl rfl
 |k+1,t,b=>by
  rw[Tl.within,Tl.within]
  by_cases hm:Tl.made (t:Int)=true
  ·rw[if_pos hm,if_pos hm]
   have h:=loop_less (within_less k) (decide (k=0)) (decide (t=49)) b.length b [] 0
   rw[show decide (k+1=0)=false from rfl]
   rcases h with h|h
   ·rw[h];exact .inl rfl
   ·rw[h];exact .inr rfl
  ·rw[if_neg hm,if_neg hm];exact .inr rfl
def Deep (r:Except Nat Nat):Prop:=(∃ m,r=.ok m)∨r=.error 6
theorem deep_less {k t:Nat} {b:List Nat} (h:Deep (Tl.within (k+1) t b)):Deep (Tl.within k t b):=by
 rcases within_less k t b with h2|h2
 ·exact .inr h2
 ·rw[h2];exact h
def Ok (x:List Nat):Prop:=∃ t b,Tl.known (t:Nat)=true∧b.length≤65530∧x=Tl.elem t b∧(∀ z∈b,z<256)∧Deep (Tl.within 16 t b)
theorem levels_elem {t:Nat} {b:List Nat} (ht:Tl.known (t:Nat)=true) (hb:b.length≤65530):Tl.levels (Tl.elem t b)=Tl.within 16 t b:=by
 have he:=Tl.elem_len t b
 have hmo:Tl.more b.length≤2:=by
  unfold Tl.more
  repeat' split
  all_goals omega
 have hf:=Tl.first_ok t b [] ht hb
 have h2:=Tl.elem_body t b []
 rw[List.append_nil] at hf h2
 unfold Tl.levels
 rw[if_neg (by omega),hf]
 show (if _ then _ else _)=_
 rw[if_neg (by omega),h2]
theorem Ok.lt {x:List Nat} (h:Ok x):∀ z∈x,z<256:=by
 obtain ⟨t,b,h1,_,rfl,h3,_⟩:=h
 have:=Tl.known_nat _ h1
 exact Tl.elem_lt (by omega) h3
theorem loop_ok (k:Nat) (set:Bool):∀ (xs:List (List Nat)) (f:Nat) (ah:List Nat) (d:Nat),(∀ x∈xs,Ok x)→(set=true→(∀ z∈ah,z<256)∧(ah :: xs).Pairwise Pt.le)→xs.flatten.length≤f→k≤16 →
  Deep (Tl.loop (Tl.within k) false set f xs.flatten ah d)
 |[],f,ah,d,_,_,_,_=>.inl ⟨d,by cases f <;> simp[Tl.loop]⟩
 |x :: r,f,ah,d,hx,hs,hf,hk=>by
  have hxl:=(hx x (by simp)).lt
  obtain ⟨t,b,ht,hb,rfl,_,hw⟩:=hx x (by simp)
  have hl:=Tl.elem_len t b
  rw[List.flatten_cons,List.length_append,hl] at hf
  obtain ⟨g,rfl⟩:∃ g,f=g+1:=⟨f-1,by omega⟩
  have hne:Tl.elem t b++r.flatten≠[]:=by simp[Tl.elem]
  have hd:Deep (Tl.within k t b):=by
   have:∀ j,j≤16→Deep (Tl.within (16-j) t b):=fun j=>by
    induction j with
    |zero=>intro _;exact hw
    |succ j ih =>
     intro hj
     have:=ih (by omega)
     rw[show 16-j=(16-(j+1))+1 by omega] at this
     exact deep_less this
   have:=this (16-k) (by omega)
   rwa [show 16-(16-k)=k by omega] at this
  have htk:(Tl.elem t b++r.flatten).take (2+Tl.more b.length+b.length)=Tl.elem t b:=by rw[←hl,List.take_left' rfl]
  rw[List.flatten_cons,Tl.loop,if_neg hne,Tl.first_ok t b _ ht hb]
  simp only[Bool.false_eq_true,if_false,Tl.elem_body]
  rw[Tl.elem_rest,htk]
  rcases hd with ⟨m,hm⟩|hm
  ·rw[hm]
   show Deep (if _ then _ else _)
   have hc:(set&&decide (Tl.cmpB (Tl.elem t b) ah<0))=false:=by
    cases set
    ·rfl
    ·obtain ⟨h1,h2⟩:=hs rfl
     rw[Bool.true_and,cmp_lex hxl h1]
     exact (List.pairwise_cons.1 h2).1 _ (by simp)
   rw[hc,if_neg (by decide)]
   exact loop_ok k set r g (Tl.elem t b) (max d m) (fun y hy=>hx y (by simp[hy])) (fun h=>⟨hxl,(List.pairwise_cons.1 (hs h).2).2⟩) (by omega) hk
  ·rw[hm];exact .inr rfl
end De
namespace De
theorem foldl_num (l:List Nat):∀ a,l.foldl (fun a x=>256*a+x) a=a*256 ^ l.length+Tl.num l:=by
 induction l with
 |nil=>intro a;simp[Tl.num]
 |cons x r ih =>
  intro a
  have e:Tl.num (x :: r)=(256*0+x)*256 ^ r.length+Tl.num r:=ih _
  rw[List.foldl_cons,ih,e,List.length_cons,Nat.pow_succ,Nat.add_mul,Nat.add_mul,Nat.mul_comm 256 a,Nat.mul_assoc a 256,Nat.mul_comm 256 (256 ^ r.length)]
  omega
theorem num_cons (x:Nat) (r:List Nat):Tl.num (x :: r)=x*256 ^ r.length+Tl.num r:=by
 have e:Tl.num (x :: r)=(256*0+x)*256 ^ r.length+Tl.num r:=foldl_num r _
 rw[e,Nat.mul_zero,Nat.zero_add]
theorem num_lt2:∀ {l:List Nat},(∀ x∈l,x<256)→Tl.num l<256 ^ l.length
 |[],_=>by simp[Tl.num]
 |x :: r,h=>by
  have ih:=num_lt2 (l:=r) (fun y hy=>h y (by simp[hy]))
  have hx:=h x (by simp)
  rw[num_cons,List.length_cons,Nat.pow_succ]
  have:x*256 ^ r.length≤255*256 ^ r.length:=Nat.mul_le_mul_right _ (by omega)
  omega
theorem be_add (x:Nat):∀ (k j n:Nat),k≤j→Tl.be k (x*256 ^ j+n)=Tl.be k n
 |0,_,_,_=>rfl
 |k+1,j,n,h=>by
  rw[Tl.be,Tl.be,be_add x k j n (by omega)]
  have e:x*256 ^ j=(x*256 ^ (j-k-1)*256)*256 ^ k:=by
   rw[Nat.mul_assoc,Nat.mul_assoc,←Nat.pow_succ',←Nat.pow_add,show j-k-1+(k+1)=j by omega]
  rw[e,Nat.mul_comm _ (256 ^ k),Nat.mul_add_div (Nat.pow_pos (by decide)),Nat.mul_comm _ 256,Nat.mul_add_mod]
theorem be_num:∀ {l:List Nat},(∀ x∈l,x<256)→Tl.be l.length (Tl.num l)=l
 |[],_=>rfl
 |x :: r,h=>by
  have ih:=be_num (l:=r) (fun y hy=>h y (by simp[hy]))
  have hx:=h x (by simp)
  have hr:=num_lt2 (l:=r) (fun y hy=>h y (by simp[hy]))
  rw[num_cons,List.length_cons,Tl.be,be_add x _ _ _ (Nat.le_refl _),ih,Nat.mul_comm,Nat.mul_add_div (Nat.pow_pos (by decide)),Nat.div_eq_of_lt hr,Nat.add_zero,Nat.mod_eq_of_lt hx]
theorem rdLen_inv {r:List Nat} {n k:Nat} (h8:∀ x∈r,x<256) (h:Tl.rdLen r=.ok (n,k)):k=1+Tl.more n∧n≤65530∧k≤r.length∧r.take k=Tl.lenB n:=by
 have pr:∀ {a b c d:Nat},(Except.ok (a,b):Except Nat (Nat×Nat))=.ok (c,d)→a=c∧b=d:=fun e=>Prod.mk.inj (Except.ok.inj e)
 match r,h8,h with
 |x :: s,h8,h =>
  rw[Tl.rdLen] at h
  by_cases h1:x<128
  ·rw[if_pos h1] at h
   obtain ⟨rfl,rfl⟩:=pr h
   have hm:Tl.more x=0:=by unfold Tl.more;rw[if_pos h1]
   refine ⟨by rw[hm],by omega,by simp,?_⟩
   unfold Tl.lenB
   rw[if_pos h1]
   rfl
  rw[if_neg h1] at h
  by_cases h2:x=128∨132<x
  ·rw[if_pos h2] at h;exact absurd h (by simp)
  rw[if_neg h2] at h
  by_cases h3:s.length<x-128
  ·rw[if_pos h3] at h;exact absurd h (by simp)
  rw[if_neg h3] at h
  obtain ⟨q,hq⟩:∃ q,x=128+q:=⟨x-128,by omega⟩
  rw[show x-128=q by omega] at h h3
  by_cases h4:Tl.more (Tl.num (s.take q))≠q
  ·rw[if_pos h4] at h;exact absurd h (by simp)
  rw[if_neg h4] at h
  have h4:Tl.more (Tl.num (s.take q))=q:=Decidable.byContradiction h4
  by_cases h5:65530<Tl.num (s.take q)
  ·rw[if_pos h5] at h;exact absurd h (by simp)
  rw[if_neg h5] at h
  obtain ⟨hn,rfl⟩:=pr h
  have hl:(s.take q).length=q:=by rw[List.length_take];omega
  have hb:=be_num (l:=s.take q) (fun y hy=>h8 y (by simp[List.mem_of_mem_take hy]))
  rw[hl,hn] at hb
  rw[hn] at h4 h5
  refine ⟨by omega,by omega,by simp only[List.length_cons];omega,?_⟩
  have h128:¬ n<128:=by
   intro h6
   unfold Tl.more at h4
   rw[if_pos h6] at h4
   omega
  unfold Tl.lenB
  rw[if_neg h128,h4,hb,Nat.add_comm 1 q,List.take_succ_cons,hq]
theorem first_inv {b:List Nat} {t i n:Nat} (h8:∀ x∈b,x<256) (h:Tl.first b=.ok (t,i,n)) :
  Tl.known (t:Nat)=true∧n≤65530∧i+n≤b.length∧((b.drop i).take n).length=n∧b.take (i+n)=Tl.elem t ((b.drop i).take n):=by
 match b,h8,h with
 |x :: r,h8,h =>
  rw[Tl.first] at h
  by_cases h1:Tl.known (x:Nat)=false
  ·rw[if_pos h1] at h;exact absurd h (by simp)
  rw[if_neg h1] at h
  cases hr:Tl.rdLen r with
  |error e=>rw[hr] at h;exact absurd h (by simp)
  |ok p =>
   obtain ⟨m,k⟩:=p
   rw[hr] at h
   have h:(if r.length-k<m then (Except.error 2:Except Nat (Nat×Nat×Nat)) else .ok (x,1+k,m))=.ok (t,i,n):=h
   by_cases h2:r.length-k<m
   ·rw[if_pos h2] at h;exact absurd h (by simp)
   rw[if_neg h2] at h
   obtain ⟨rfl,h3⟩:=Prod.mk.inj (Except.ok.inj h)
   obtain ⟨rfl,rfl⟩:=Prod.mk.inj h3
   obtain ⟨hk,hm,hkl,hlen⟩:=rdLen_inv (fun y hy=>h8 y (by simp[hy])) hr
   have hl:(((x :: r).drop (1+k)).take m).length=m:=by
    rw[List.length_take,List.length_drop,List.length_cons];omega
   refine ⟨by simpa using h1,hm,by simp only[List.length_cons];omega,hl,?_⟩
   rw[Tl.elem,hl,←hlen,Nat.add_comm 1 k,show k+1+m=(k+m)+1 by omega,List.take_succ_cons,List.drop_succ_cons,←List.take_add]
theorem levels_inv {b:List Nat} {m:Nat} (h8:∀ x∈b,x<256) (h:Tl.levels b=.ok m):Ok b:=by
 unfold Tl.levels at h
 by_cases h1:65536<b.length
 ·rw[if_pos h1] at h;exact absurd h (by simp)
 rw[if_neg h1] at h
 cases hf:Tl.first b with
 |error e=>rw[hf] at h;exact absurd h (by simp)
 |ok p =>
  obtain ⟨t,i,n⟩:=p
  rw[hf] at h
  have h:(if i+n<b.length then (Except.error 4:Except Nat Nat) else Tl.within 16 t ((b.drop i).take n))=.ok m:=h
  by_cases h2:i+n<b.length
  ·rw[if_pos h2] at h;exact absurd h (by simp)
  rw[if_neg h2] at h
  obtain ⟨hk,hn,hl,hlen,he⟩:=first_inv h8 hf
  refine ⟨t,(b.drop i).take n,hk,by omega,?_,fun z hz=>h8 z (List.mem_of_mem_drop (List.mem_of_mem_take hz)),.inl ⟨m,h⟩⟩
  rw[←he,List.take_of_length_le (by omega)]
structure Good (s:St):Prop where
 dn:∀ x∈s.dn,Ok x
 op:∀ p∈s.op,Tl.made (p.1:Nat)=true∧∀ x∈p.2,Ok x
theorem good_zero:Good St.zero:=⟨by simp[St.zero],by simp[St.zero]⟩
theorem good_err {s:St} (h:Good s) (e:Nat):Good { s with e:=e }:=⟨h.dn,h.op⟩
theorem good_add {s:St} {x:List Nat} (h:Good s) (hx:Ok x):Good (add s x):=by
 obtain ⟨e,op,dn⟩:=s
 match op,h with
 |[],h =>
  refine ⟨fun y hy=>?_,h.op⟩
  rcases List.mem_append.1 hy with h1|h1
  ·exact h.dn y h1
  ·rw[List.mem_singleton] at h1;rw[h1];exact hx
 |(t,l) :: r,h =>
  refine ⟨h.dn,fun p hp=>?_⟩
  rcases List.mem_cons.1 hp with rfl|hp
  ·have:=h.op (t,l) (by simp)
   refine ⟨this.1,fun y hy=>?_⟩
   rcases List.mem_append.1 hy with h1|h1
   ·exact this.2 y h1
   ·rw[List.mem_singleton] at h1;rw[h1];exact hx
  ·exact h.op p (by simp[hp])
theorem good_put {s:St} {t:Nat} {b:List Nat} (h:Good s) (hk:Tl.known (t:Nat)=true) (h8:∀ z∈b,z<256) (hw:b.length≤65530→Deep (Tl.within 16 t b)):Good (put s t b):=by
 unfold put
 by_cases hl:65530<b.length
 ·rw[if_pos hl];exact good_err h 3
 ·rw[if_neg hl];exact good_add h ⟨t,b,hk,by omega,rfl,h8,hw (by omega)⟩
theorem within_flat {t:Nat} (b:List Nat) (h:Tl.made (t:Nat)=false):Deep (Tl.within 16 t b):=.inl ⟨1,by rw[Tl.within,h];rfl⟩
theorem known_made {t:Nat} (h:Tl.made (t:Nat)=true):Tl.known (t:Nat)=true:=by unfold Tl.known;rw[h];rfl
theorem good_cls {s:St} (h:Good s):Good (cls s):=by
 obtain ⟨e,op,dn⟩:=s
 match op,h with
 |[],h=>exact good_err h 24
 |(t,l) :: r,h =>
  obtain ⟨hm,hl⟩:=h.op (t,l) (by simp)
  have h2:Good ⟨e,r,dn⟩:=⟨h.dn,fun p hp=>h.op p (by simp[hp])⟩
  obtain ⟨xs,hxs⟩:∃ xs,xs=(if t=49 then Pt.sort l else l):=⟨_,rfl⟩
  have hx:∀ x∈xs,Ok x:=fun x hx=>by
   rw[hxs] at hx
   split at hx
   ·exact hl x (Pt.sort_mem.1 hx)
   ·exact hl x hx
  have hs:t=49→([] :: xs).Pairwise Pt.le:=fun h49=>by
   rw[hxs,if_pos h49]
   refine List.pairwise_cons.2 ⟨fun y _=>?_,Pt.sort_sorted l⟩
   show Cal.lex y []=false
   cases y <;> rfl
  show Good (put ⟨e,r,dn⟩ t (if t=49 then Pt.sort l else l).flatten)
  rw[←hxs]
  refine good_put h2 (known_made hm) ?_ (fun hlen=>?_)
  ·intro z hz
   obtain ⟨x,hx1,hx2⟩:=List.mem_flatten.1 hz
   exact (hx x hx1).lt z hx2
  ·rw[Tl.within,if_pos hm]
   have:=loop_ok 15 (decide (t=49)) xs xs.flatten.length [] 0 hx (fun h=>⟨by simp,hs (by simpa using h)⟩) (Nat.le_refl _) (by omega)
   show Deep (match Tl.loop (Tl.within 15) (decide (15=0)) (decide (t=49)) xs.flatten.length xs.flatten [] 0 with | .error e=>_ | .ok d=>_)
   rw[show decide (15=0)=false from rfl]
   rcases this with ⟨m,hm⟩|hm
   ·rw[hm];exact .inl ⟨1+m,rfl⟩
   ·rw[hm];exact .inr rfl
end De
namespace De
theorem rest_lt:∀ (l:List Int),∀ x∈Od.rest l,x<256
 |[]=>by simp[Od.rest]
 |n :: r=>by
  intro x hx
  rw[Od.rest,List.mem_append] at hx
  rcases hx with h|h
  ·exact Od.septUpto_lt n.toNat 6 x h
  ·exact rest_lt r x h
theorem oput_lt (l:List Int):∀ x∈Od.put l,x<256:=by
 intro x hx
 rcases List.mem_append.1 hx with h|h
 ·exact Od.septUpto_lt _ 6 x h
 ·exact rest_lt _ x h
theorem two_lt (n:Nat) (h:n<100):∀ x∈Cal.two n,x<256:=by
 intro x hx
 simp only[Cal.two,List.mem_cons,List.not_mem_nil,or_false] at hx
 omega
theorem ctext_lt {d:Cal.Date} (h:Cal.Right d):∀ x∈Cal.text d,x<256:=by
 obtain ⟨⟨y1,y2⟩,⟨m1,m2⟩,⟨d1,d2⟩,h1,h2,h3⟩:=h
 have hd:=(Cal.days_pos (y:=d.Y) m1 m2).2
 intro x hx
 simp only[Cal.text,List.mem_append] at hx
 rcases hx with h|h|h|h|h|h|h|h
 ·exact two_lt _ (by omega) x h
 ·exact two_lt _ (by omega) x h
 ·exact two_lt _ (by omega) x h
 ·exact two_lt _ (by omega) x h
 ·exact two_lt _ (by omega) x h
 ·exact two_lt _ (by omega) x h
 ·exact two_lt _ (by omega) x h
 ·rw[List.mem_singleton] at h;omega
def Byt (v:Val):Prop:=(∀ z∈v.b,z<256)∧(∀ z∈v.t,z<256)
theorem body_lt {v:Val} {t:Nat} {b:List Nat} (hv:Byt v) (h:body v=.ok (t,b)):(∀ z∈b,z<256)∧Tl.made (t:Nat)=false∧Tl.known (t:Nat)=true:=by
 have pr:∀ {a c:Nat} {x y:List Nat},(Except.ok (a,x):Except Nat (Nat×List Nat))=.ok (c,y)→a=c∧x=y:=fun e=>Prod.mk.inj (Except.ok.inj e)
 obtain ⟨hb,ht⟩:=hv
 obtain ⟨k,n,is,vb,vt⟩:=v
 unfold body at h
 simp only at *
 by_cases e3:k=3
 ·rw[if_pos e3] at h;obtain ⟨rfl,rfl⟩:=pr h;exact ⟨Wh.body_lt n,by decide,by decide⟩
 rw[if_neg e3] at h
 by_cases e4:k=4
 ·rw[if_pos e4] at h;obtain ⟨rfl,rfl⟩:=pr h;exact ⟨Wh.body_lt n,by decide,by decide⟩
 rw[if_neg e4] at h
 by_cases e5:k=5
 ·rw[if_pos e5] at h;obtain ⟨rfl,rfl⟩:=pr h;exact ⟨by cases is <;> simp,by decide,by decide⟩
 rw[if_neg e5] at h
 by_cases e6:k=6
 ·rw[if_pos e6] at h;obtain ⟨rfl,rfl⟩:=pr h;exact ⟨hb,by decide,by decide⟩
 rw[if_neg e6] at h
 by_cases e7:k=7
 ·rw[if_pos e7] at h
  by_cases ha:Pt.asked vt n=0
  ·rw[if_pos ha] at h;obtain ⟨rfl,rfl⟩:=pr h;exact ⟨ht,by decide,by decide⟩
  ·rw[if_neg ha] at h;exact absurd h (by simp)
 rw[if_neg e7] at h
 by_cases e8:k=8
 ·rw[if_pos e8] at h
  cases hp:Od.parse vt with
  |error e=>rw[hp] at h;exact absurd h (by simp)
  |ok l=>rw[hp] at h;obtain ⟨rfl,rfl⟩:=pr h;exact ⟨oput_lt l,by decide,by decide⟩
 rw[if_neg e8] at h
 by_cases e9:k=9
 ·rw[if_pos e9] at h
  by_cases ha:n<0∨253402300799<n
  ·rw[if_pos ha] at h;exact absurd h (by simp)
  ·rw[if_neg ha] at h;obtain ⟨rfl,rfl⟩:=pr h;exact ⟨ctext_lt (Cal.of_right (by omega)).1,by decide,by decide⟩
 rw[if_neg e9] at h
 by_cases ha:n<0∨32767<n
 ·rw[if_pos ha] at h;exact absurd h (by simp)
 ·rw[if_neg ha] at h;obtain ⟨rfl,rfl⟩:=pr h;exact ⟨Pt.flags_lt _ (by omega),by decide,by decide⟩
theorem good_step {s:St} {v:Val} (h:Good s) (hv:Byt v):Good (step s v):=by
 unfold step
 by_cases he:s.e≠0
 ·rw[if_pos he];exact h
 rw[if_neg he]
 by_cases h1:v.kind=1
 ·rw[if_pos h1]
  unfold opn
  by_cases hm:Tl.made v.n=false
  ·rw[if_pos hm];exact good_err h 5
  rw[if_neg hm]
  by_cases hd:16≤s.op.length
  ·rw[if_pos hd];exact good_err h 6
  rw[if_neg hd]
  have hm2:Tl.made v.n=true:=by simpa using hm
  have:=Tl.made_nat _ hm2
  refine ⟨h.dn,fun p hp=>?_⟩
  rcases List.mem_cons.1 hp with rfl|hp
  ·exact ⟨by show Tl.made ((v.n.toNat:Nat):Int)=true;rw[Int.toNat_of_nonneg (by omega)];exact hm2,by simp⟩
  ·exact h.op p hp
 rw[if_neg h1]
 by_cases h2:v.kind=2
 ·rw[if_pos h2];exact good_cls h
 rw[if_neg h2]
 by_cases h3:v.kind=11
 ·rw[if_pos h3]
  unfold raw
  cases hl:Tl.levels v.b with
  |error e=>exact good_err h e
  |ok m=>exact good_add h (levels_inv hv.1 hl)
 rw[if_neg h3]
 unfold plainV
 cases hb:body v with
 |error e=>exact good_err h e
 |ok p =>
  obtain ⟨t,b⟩:=p
  obtain ⟨h8,hm,hk⟩:=body_lt hv hb
  exact good_put h hk h8 (fun _=>within_flat b hm)
def all:Nat→List Nat→Except Nat (List (Nat×List Nat))
 |0,_=>.ok []
 |f+1,b=>if b=[] then .ok [] else match Tl.first b with
  |.error e=>.error e
  |.ok (t,i,n)=>match all f (b.drop (i+n)) with
   |.error e=>.error e
   |.ok r=>.ok ((t,(b.drop i).take n) :: r)
theorem steps_open {t:Nat} {r:List (Nat×List (List Nat))} {dn:List (List Nat)}:∀ (l:List Val) (xs:List (List Nat)),(∀ v∈l,Fit v∧has v=true) →
  l.foldl step ⟨0,(t,xs) :: r,dn⟩=⟨0,(t,xs++l.map elemOf) :: r,dn⟩
 |[],xs,_=>by simp
 |v :: l,xs,h=>by
  obtain ⟨hf,hh⟩:=h v (by simp)
  rw[List.foldl_cons,step_plain hf rfl,if_pos hh]
  show l.foldl step ⟨0,(t,xs++[elemOf v]) :: r,dn⟩=_
  rw[steps_open l (xs++[elemOf v]) (fun x hx=>h x (by simp[hx])),List.map_cons,List.append_assoc]
  rfl
end De
namespace De
def Dp (k:Nat) (x:List Nat):Prop:=∃ t b,Tl.known (t:Nat)=true∧b.length≤65530∧x=Tl.elem t b∧(∀ z∈b,z<256)∧∃ m,Tl.within k t b=.ok m
theorem Dp.up {k:Nat} {x:List Nat} (h:Dp k x):Dp (k+1) x:=by
 obtain ⟨t,b,h1,h2,h3,h4,m,h5⟩:=h
 refine ⟨t,b,h1,h2,h3,h4,m,?_⟩
 rcases within_less k t b with h|h
 ·rw[h] at h5;cases h5
 ·rw[←h];exact h5
theorem Dp.mono {k:Nat} {x:List Nat} (h:Dp k x):∀ j,Dp (k+j) x
 |0=>h
 |j+1=>(Dp.mono h j).up
theorem Dp.lt {k:Nat} {x:List Nat} (h:Dp k x):∀ z∈x,z<256:=by
 obtain ⟨t,b,h1,_,rfl,h3,_⟩:=h
 have:=Tl.known_nat _ h1
 exact Tl.elem_lt (by omega) h3
theorem nil_le (y:List Nat):Pt.le [] y:=by unfold Pt.le;cases y <;> rfl
theorem loop_dp (k:Nat) (set:Bool):∀ (xs:List (List Nat)) (f:Nat) (ah:List Nat) (d:Nat),(∀ x∈xs,Dp k x)→(set=true→(∀ z∈ah,z<256)∧(ah :: xs).Pairwise Pt.le)→xs.flatten.length≤f →
  ∃ m,Tl.loop (Tl.within k) false set f xs.flatten ah d=.ok m
 |[],f,ah,d,_,_,_=>⟨d,by cases f <;> simp[Tl.loop]⟩
 |x :: r,f,ah,d,hx,hs,hf=>by
  have hxl:=(hx x (by simp)).lt
  obtain ⟨t,b,ht,hb,rfl,_,m,hm⟩:=hx x (by simp)
  have hl:=Tl.elem_len t b
  rw[List.flatten_cons,List.length_append,hl] at hf
  obtain ⟨g,rfl⟩:∃ g,f=g+1:=⟨f-1,by omega⟩
  have hne:Tl.elem t b++r.flatten≠[]:=by simp[Tl.elem]
  have htk:(Tl.elem t b++r.flatten).take (2+Tl.more b.length+b.length)=Tl.elem t b:=by rw[←hl,List.take_left' rfl]
  rw[List.flatten_cons,Tl.loop,if_neg hne,Tl.first_ok t b _ ht hb]
  simp only[Bool.false_eq_true,if_false,Tl.elem_body]
  rw[Tl.elem_rest,htk,hm]
  have hc:(set&&decide (Tl.cmpB (Tl.elem t b) ah<0))=false:=by
   cases set
   ·rfl
   ·obtain ⟨h1,h2⟩:=hs rfl
    rw[Bool.true_and,cmp_lex hxl h1]
    exact (List.pairwise_cons.1 h2).1 _ (by simp)
  simp only[hc,Bool.false_eq_true,if_false]
  exact loop_dp k set r g (Tl.elem t b) (max d m) (fun y hy=>hx y (by simp[hy])) (fun h=>⟨hxl,(List.pairwise_cons.1 (hs h).2).2⟩) (by omega)
theorem dp_list {t k:Nat} {xs:List (List Nat)} (ht:Tl.made (t:Nat)=true) (hk:1≤k) (hx:∀ x∈xs,Dp k x) (hs:t=49→Pt.Sorted xs) (hl:xs.flatten.length≤65530):Dp (k+1) (Tl.elem t xs.flatten):=by
 obtain ⟨m,hm⟩:=loop_dp k (decide (t=49)) xs xs.flatten.length [] 0 hx (fun h=>⟨by simp,List.pairwise_cons.2 ⟨fun y _=>nil_le y,hs (of_decide_eq_true h)⟩⟩) (Nat.le_refl _)
 refine ⟨t,_,known_made ht,hl,rfl,fun z hz=>?_,1+m,?_⟩
 ·obtain ⟨y,hy,hzy⟩:=List.mem_flatten.1 hz;exact (hx y hy).lt z hzy
 ·rw[Tl.within,if_pos ht,show decide (k=0)=false from decide_eq_false (by omega),hm]
theorem dp_leaf {v:Val} (hf:Fit v) (hb:Byt v) (h:has v=true):Dp 1 (elemOf v):=by
 obtain ⟨t,b,hb2⟩:=has_ok h
 obtain ⟨h1,h2,h3⟩:=body_lt hb hb2
 have hl:=body_len hf.2.2.1 hf.2.2.2 hb2
 rw[elemOf_ok hb2]
 exact ⟨t,b,h3,by omega,rfl,h1,1,by rw[Tl.within,h2];rfl⟩
theorem start_dp {x:List Nat} (h:Dp 16 x):start x=⟨0,x,[]⟩:=by
 obtain ⟨t,b,h1,h2,rfl,_,m,h5⟩:=h
 unfold start
 rw[levels_elem h1 h2,h5]
theorem enter_elem {t:Nat} {b r:List Nat} {L:List (List Nat)} (ht:Tl.made (t:Nat)=true) (hb:b.length≤65530):enter ⟨0,Tl.elem t b++r,L⟩ (t:Int)=(⟨0,b,r :: L⟩,true):=by
 unfold enter
 rw[if_neg (fun h=>h rfl),if_neg (by intro h;rw[ht] at h;exact absurd h.2 (by decide)),next_elem (known_made ht) hb]
theorem leave_elem {r:List Nat} {L:List (List Nat)}:leave ⟨0,[],r :: L⟩=⟨0,r,L⟩:=rfl
theorem more_elem {t:Nat} {b r:List Nat} {L:List (List Nat)}:more ⟨0,Tl.elem t b++r,L⟩=true:=by simp[more,Tl.elem]
theorem ask_said {v x:Val} {r:List Nat} {L:List (List Nat)} {tag lo hi:Int} (hf:Fit v) (h:has v=true) (hs:∀ t b,body v=.ok (t,b)→said v.kind lo hi b=.ok x):ask ⟨0,elemOf v++r,L⟩ v.kind tag lo hi=(⟨0,r,L⟩,x):=by
 obtain ⟨t,b,hb⟩:=has_ok h
 have hk:=hf.1
 obtain ⟨h1,h2,h3⟩:=body_tag hk hb
 have hl:=body_len hf.2.2.1 hf.2.2.2 hb
 unfold ask
 rw[elemOf_ok hb,if_neg (fun h=>h rfl),if_neg (by omega),if_neg (by omega),if_neg (by omega),←h1,next_elem h3 (by omega)]
 show (match said v.kind _ _ b with | .error e=>_ | .ok v=>_)=_
 rw[hs t b hb]
def vInt (n:Int):Val:={ none0 with kind:=3,n:=n }
def vOct (b:List Nat):Val:={ none0 with kind:=6,b:=b }
def vTxt (m:Int) (s:List Nat):Val:={ none0 with kind:=7,n:=m,t:=s }
def vMom (n:Int):Val:={ none0 with kind:=9,n:=n }
theorem body_mom (n:Int) (h:0≤n∧n≤253402300799):body (vMom n)=.ok (24,Cal.text (Cal.of n.toNat)):=by
 have h2:¬ (n<0∨253402300799<n):=by omega
 simp[body,vMom,none0,h2]
theorem body_txt (m:Int) (s:List Nat) (h:Pt.asked s m=0):body (vTxt m s)=.ok (12,s):=by simp[body,vTxt,none0,h]
theorem fit_int {n:Int} (h:I64 n):Fit (vInt n)∧has (vInt n)=true:=⟨⟨(by decide:(3:Int)≤3∧(3:Int)≤10),h,by simp[vInt,none0],by simp[vInt,none0]⟩,rfl⟩
theorem fit_oct {b:List Nat} (h:b.length≤300):Fit (vOct b)∧has (vOct b)=true:=⟨⟨(by decide:(3:Int)≤6∧(6:Int)≤10),(by decide:(-9223372036854775808:Int)≤0∧(0:Int)≤9223372036854775807),h,by simp[vOct,none0]⟩,rfl⟩
theorem fit_mom {n:Int} (h:0≤n∧n≤253402300799):Fit (vMom n)∧has (vMom n)=true:=by
 refine ⟨⟨(by decide:(3:Int)≤9∧(9:Int)≤10),⟨by show _≤n;omega,by show n≤_;omega⟩,by simp[vMom,none0],by simp[vMom,none0]⟩,?_⟩
 unfold has;rw[body_mom n h]
theorem fit_txt {m:Int} {s:List Nat} (hm:I64 m) (hs:s.length≤300) (h:Pt.asked s m=0):Fit (vTxt m s)∧has (vTxt m s)=true:=by
 refine ⟨⟨(by decide:(3:Int)≤7∧(7:Int)≤10),hm,by simp[vTxt,none0],hs⟩,?_⟩
 unfold has;rw[body_txt m s h]
theorem byt_n (n:Int) (k:Int):Byt { none0 with kind:=k,n:=n }:=⟨by simp[none0],by simp[none0]⟩
theorem len_elem {v:Val} {t:Nat} {b:List Nat} (h:body v=.ok (t,b)) (hb:b.length<128):(elemOf v).length=2+b.length:=by
 rw[elemOf_ok h,Tl.elem_len,Tl.more,if_pos hb]
theorem ask_int {n lo hi tag:Int} {r:List Nat} {L:List (List Nat)} (h:I64 n) (h2:lo≤n∧n≤hi):ask ⟨0,elemOf (vInt n)++r,L⟩ 3 tag lo hi=(⟨0,r,L⟩,{ none0 with n:=n }) :=
 ask_said (v:=vInt n) (fit_int h).1 (fit_int h).2 (fun t b hb=>by
  have e:body (vInt n)=.ok (2,Wh.body n):=rfl
  rw[e] at hb
  obtain ⟨rfl,rfl⟩:=Prod.mk.inj (Except.ok.inj hb)
  show said 3 lo hi (Wh.body n)=_
  unfold said
  rw[if_pos (.inl rfl),Wh.get_body n h.1 h.2]
  show (if _ then _ else _)=_
  rw[if_neg (by omega)])
theorem ask_oct {b r:List Nat} {L:List (List Nat)} {lo hi tag:Int} (h:b.length≤300) (h2:lo≤(b.length:Int)∧(b.length:Int)≤hi):ask ⟨0,elemOf (vOct b)++r,L⟩ 6 tag lo hi=(⟨0,r,L⟩,{ none0 with b:=b }) :=
 ask_said (v:=vOct b) (fit_oct h).1 (fit_oct h).2 (fun t b2 hb=>by
  have e:body (vOct b)=.ok (4,b):=rfl
  rw[e] at hb
  obtain ⟨rfl,rfl⟩:=Prod.mk.inj (Except.ok.inj hb)
  show said 6 lo hi b=_
  unfold said
  rw[if_neg (by decide),if_neg (by decide),if_pos rfl,if_neg (by omega),if_neg (by omega)])
theorem ask_txt {s r:List Nat} {L:List (List Nat)} {m lo hi tag:Int} (hm:I64 m) (hs:s.length≤300) (h:Pt.asked s m=0) (h2:Pt.asked s hi=0):ask ⟨0,elemOf (vTxt m s)++r,L⟩ 7 tag lo hi=(⟨0,r,L⟩,{ none0 with t:=s }) :=
 ask_said (v:=vTxt m s) (fit_txt hm hs h).1 (fit_txt hm hs h).2 (fun t b2 hb=>by
  rw[body_txt m s h] at hb
  obtain ⟨rfl,rfl⟩:=Prod.mk.inj (Except.ok.inj hb)
  show said 7 lo hi s=_
  unfold said
  rw[if_neg (by decide),if_neg (by decide),if_neg (by decide),if_pos rfl,if_pos h2])
theorem ask_mom {n lo hi tag:Int} {r:List Nat} {L:List (List Nat)} (h:0≤n∧n≤253402300799):ask ⟨0,elemOf (vMom n)++r,L⟩ 9 tag lo hi=(⟨0,r,L⟩,{ none0 with n:=n }) :=
 ask_said (v:=vMom n) (fit_mom h).1 (fit_mom h).2 (fun t b hb=>by
  rw[body_mom n h] at hb
  obtain ⟨rfl,rfl⟩:=Prod.mk.inj (Except.ok.inj hb)
  have hc:=Cal.of_right (t:=n.toNat) (by omega)
  show said 9 lo hi (Cal.text (Cal.of n.toNat))=_
  unfold said
  rw[if_neg (by decide),if_neg (by decide),if_neg (by decide),if_neg (by decide),if_neg (by decide),if_pos rfl,Cal.get_text hc.1,hc.2]
  show Except.ok _=_
  rw[Int.toNat_of_nonneg (by omega)])
theorem step_opn {t:Int} {op:List (Nat×List (List Nat))} {dn:List (List Nat)} (ht:Tl.made t=true) (h:op.length<16):step ⟨0,op,dn⟩ { none0 with kind:=1,n:=t }=⟨0,(t.toNat,[]) :: op,dn⟩:=by
 unfold step
 rw[if_neg (fun h=>h rfl),if_pos rfl,opn,if_neg (by rw[show ({ none0 with kind:=1,n:=t }:Val).n=t from rfl,ht];decide),if_neg (by show ¬ 16≤op.length;omega)]
theorem step_cls {t:Nat} {l:List (List Nat)} {r:List (Nat×List (List Nat))} {dn:List (List Nat)} (h:(if t=49 then Pt.sort l else l).flatten.length≤65530):step ⟨0,(t,l) :: r,dn⟩ { none0 with kind:=2 }=add ⟨0,r,dn⟩ (Tl.elem t (if t=49 then Pt.sort l else l).flatten):=by
 unfold step
 rw[if_neg (fun h=>h rfl),if_neg (by decide:¬ (2:Int)=1),if_pos rfl,cls]
 show put _ _ _=_
 rw[put,if_neg (by omega)]
theorem step_val {v:Val} {t:Nat} {l:List (List Nat)} {r:List (Nat×List (List Nat))} {dn:List (List Nat)} (h:Fit v∧has v=true):step ⟨0,(t,l) :: r,dn⟩ v=⟨0,(t,l++[elemOf v]) :: r,dn⟩:=by
 rw[step_plain h.1 rfl,if_pos h.2];rfl
theorem done_one {x:List Nat} (h:x.length≤65536):done ⟨0,[],[x]⟩=.ok x:=by
 unfold done
 rw[if_neg (fun h=>h rfl),if_neg (fun h=>h rfl),List.flatten_cons,List.flatten_nil,List.append_nil,if_neg (by omega)]
theorem perm_map {α β:Type} (f:α→β) {ys zs:List β} (h:ys.Perm zs):∀ l:List α,zs=l.map f→∃ xs:List α,xs.Perm l∧ys=xs.map f:=by
 induction h with
 |nil=>intro l h;exact ⟨[],by cases l with|nil=>exact List.Perm.refl _|cons x r=>simp at h,rfl⟩
 |cons a _ ih =>
  intro l h
  cases l with
  |nil=>simp at h
  |cons x r =>
   rw[List.map_cons] at h
   obtain ⟨rfl,h2⟩:=List.cons.inj h
   obtain ⟨xs,h3,rfl⟩:=ih r h2
   exact ⟨x :: xs,h3.cons x,rfl⟩
 |swap a b t =>
  intro l h
  cases l with
  |nil=>simp at h
  |cons x r =>
   cases r with
   |nil=>simp at h
   |cons y r =>
    rw[List.map_cons,List.map_cons] at h
    obtain ⟨rfl,h2⟩:=List.cons.inj h
    obtain ⟨rfl,rfl⟩:=List.cons.inj h2
    exact ⟨y :: x :: r,List.Perm.swap _ _ _,rfl⟩
 |trans _ _ ih1 ih2 =>
  intro l h
  obtain ⟨xs,h1,h2⟩:=ih2 l h
  obtain ⟨ys,h3,h4⟩:=ih1 xs h2
  exact ⟨ys,h3.trans h1,h4⟩
theorem sort_map {α:Type} (f:α→List Nat) (l:List α):∃ xs:List α,xs.Perm l∧Pt.sort (l.map f)=xs.map f:=perm_map f (Pt.sort_perm _) l rfl
theorem okc_plain:∀ (n:Nat) (l:List Nat),l.length=n→l.all Pt.okc=true→Pt.plain l=true
 |0,l,h,_=>by obtain rfl:=List.eq_nil_of_length_eq_zero h;rfl
 |n+1,x :: r,h,ha=>by
  rw[List.all_cons,Bool.and_eq_true] at ha
  have hx:=ha.1
  simp only[Pt.okc,Bool.or_eq_true,Bool.and_eq_true,decide_eq_true_eq] at hx
  have h8:∀ y∈x :: r,y<256:=fun y hy=>by
   have:=List.all_eq_true.1 (show (x :: r).all Pt.okc=true by rw[List.all_cons,ha.1,ha.2];rfl) y hy
   simp only[Pt.okc,Bool.or_eq_true,Bool.and_eq_true,decide_eq_true_eq] at this
   omega
  rw[Pt.plain_step h8 (by simp),Pt.step1 _ (by show x<128;omega),if_neg (by show ¬ (x<32∨x=127);omega)]
  exact okc_plain n r (by simpa using h) ha.2
theorem label_asked {l:List Nat} {m:Int} (h:Pt.label l=true) (hm:24≤m):Pt.asked l m=0∧l.length≤24:=by
 unfold Pt.label at h
 simp only[Bool.and_eq_true,decide_eq_true_eq] at h
 obtain ⟨⟨h1,h2⟩,_,_,h5⟩:=h
 unfold Pt.asked
 rw[if_neg (by omega),if_neg (by omega),if_pos (okc_plain _ l rfl h5)]
 exact ⟨rfl,h2⟩
end De
end Go.Proofs.YtjjbkpjjmbfdhaaGreatDoor
