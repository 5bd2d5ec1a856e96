import Derived.Test.YtijkaknggdaajaaGreatDoorZr05
import Derived.Test.YtijkaknggdaajaaGreatDoorZr21
import Derived.Test.YtijkaknggdaajaaGreatDoorZr27
set_option linter.unusedVariables false
set_option linter.unusedSimpArgs false
namespace Go.Proofs.YtijkaknggdaajaaGreatDoor
open Go.RowKit
namespace Na
def vOpen:De.Val:={ De.none0 with kind:=1,n:=48 }
def vClose:De.Val:={ De.none0 with kind:=2 }
def vOid (o:ByteArray):De.Val:={ De.none0 with kind:=8,t:=strL o }
def vTxt (o:ByteArray):De.Val:={ De.none0 with kind:=7,n:=64,t:=strL o }
def putPart (s:De.St) (p:Pr):De.St:=De.step (De.step (De.step (De.step s vOpen) (vOid p.1)) (vTxt p.2)) vClose
def putRow (s:De.St) (l:List Pr):De.St:=De.step (l.foldl putPart (De.step s vOpen)) vClose
def putS (s:De.St) (x:Sb):De.St:=if right x=true then putRow s (parts x) else De.fail s 9
def getPart (s:De.Rd):De.Rd×Pr :=
 ((De.ask (De.ask (De.ask (De.ask s 1 48 0 0).1 8 0 0 0).1 7 0 0 64).1 2 0 0 0).1,(strOf (De.ask (De.ask s 1 48 0 0).1 8 0 0 0).2.t,strOf (De.ask (De.ask (De.ask s 1 48 0 0).1 8 0 0 0).1 7 0 0 64).2.t))
def getParts:Nat→De.Rd→List Pr→De.Rd×List Pr
 |0,s,l=>(if De.more s=true then { s with e:=3 } else s,l)
 |f+1,s,l=>if De.more s=true then getParts f (getPart s).1 (l++[(getPart s).2]) else (s,l)
def none9:Sb:=⟨0,e0,e0⟩
def getEnd (s:De.Rd) (l:List Pr):De.Rd×Sb:=if s.e≠0 then (s,none9) else if right (s0 l)=true∧parts (s0 l)=l then (s,s0 l) else ({ s with e:=9 },none9)
def getS (s:De.Rd):De.Rd×Sb:=getEnd (De.ask (getParts 8 (De.ask s 1 48 0 0).1 []).1 2 0 0 0).1 (getParts 8 (De.ask s 1 48 0 0).1 []).2
def pelem (p:Pr):List Nat:=Tl.elem 48 (De.elemOf (vOid p.1)++De.elemOf (vTxt p.2))
def bytesOf (l:List Pr):List Nat:=Tl.elem 48 (l.map pelem).flatten
structure GoodP (p:Pr):Prop where
 oid:De.has (vOid p.1)=true
 txt:De.has (vTxt p.2)=true
 len:(strL p.1).length≤300
theorem txt_len {o:ByteArray} (h:De.has (vTxt o)=true):(strL o).length≤64∧Pt.asked (strL o) 64=0∧De.elemOf (vTxt o)=Tl.elem 12 (strL o):=by
 unfold De.has De.body vTxt at h
 simp only at h
 rw[if_neg (by decide),if_neg (by decide),if_neg (by decide),if_neg (by decide),if_pos trivial] at h
 by_cases ha:Pt.asked (strL o) 64=0
 ·refine ⟨?_,ha,?_⟩
  ·have:=ha
   unfold Pt.asked at this
   by_cases h0:(strL o).length=0
   ·omega
   ·rw[if_neg h0] at this
    by_cases h3:(64:Int)<((strL o).length:Int)
    ·rw[if_pos h3] at this;exact absurd this (by decide)
    ·omega
  ·unfold De.elemOf De.body vTxt
   simp only
   rw[if_neg (by decide),if_neg (by decide),if_neg (by decide),if_neg (by decide),if_pos trivial,if_pos ha]
 ·rw[if_neg ha] at h;cases h
theorem oid_body {o:ByteArray} (h:De.has (vOid o)=true):∃ l,Od.parse (strL o)=.ok l∧De.body (vOid o)=.ok (6,Od.put l)∧De.elemOf (vOid o)=Tl.elem 6 (Od.put l):=by
 obtain ⟨t,b,hb⟩:=De.has_ok h
 have hb':=hb
 unfold De.body vOid at hb'
 simp only at hb'
 rw[if_neg (by decide),if_neg (by decide),if_neg (by decide),if_neg (by decide),if_neg (by decide),if_pos trivial] at hb'
 cases hp:Od.parse (strL o) with
 |error e=>rw[hp] at hb';cases hb'
 |ok l =>
  rw[hp] at hb'
  obtain ⟨rfl,rfl⟩:=Prod.mk.inj (Except.ok.inj hb')
  exact ⟨l,rfl,hb,De.elemOf_ok hb⟩
theorem oput_len {l:List Int} {o:ByteArray} (h3:(strL o).length≤300) (h:De.body (vOid o)=.ok (6,Od.put l)):(Od.put l).length≤300:=De.body_len (v:=vOid o) (by simp[vOid,De.none0]) (by simpa [vOid] using h3) h
theorem GoodP.lens {p:Pr} (h:GoodP p):(De.elemOf (vOid p.1)).length≤306∧(De.elemOf (vTxt p.2)).length≤70∧(pelem p).length≤382:=by
 obtain ⟨l,_,h2,h3⟩:=oid_body h.oid
 obtain ⟨k1,k2,k3⟩:=txt_len h.txt
 have:=oput_len h.len h2
 have m1:=Tl.more_le (Od.put l).length
 have m2:=Tl.more_le (strL p.2).length
 have e1:(De.elemOf (vOid p.1)).length≤306:=by rw[h3,Tl.elem_len];omega
 have e2:(De.elemOf (vTxt p.2)).length≤70:=by rw[k3,Tl.elem_len];omega
 refine ⟨e1,e2,?_⟩
 unfold pelem
 rw[Tl.elem_len,List.length_append]
 have m3:=Tl.more_le ((De.elemOf (vOid p.1)).length+(De.elemOf (vTxt p.2)).length)
 omega
theorem putPart_ok {t:Nat} {xs:List (List Nat)} {r:List (Nat×List (List Nat))} {dn:List (List Nat)} {p:Pr} (h:GoodP p) (hr:r.length≤14):putPart ⟨0,(t,xs) :: r,dn⟩ p=⟨0,(t,xs++[pelem p]) :: r,dn⟩:=by
 obtain ⟨l1,l2,l3⟩:=h.lens
 have f1:De.Fit (vOid p.1):=⟨⟨by show (3:Int)≤8;decide,by show (8:Int)≤10;decide⟩,⟨by show (-9223372036854775808:Int)≤0;decide,by show (0:Int)≤9223372036854775807;decide⟩,by simp[vOid,De.none0],by simpa [vOid] using h.len⟩
 have f2:De.Fit (vTxt p.2):=⟨⟨by show (3:Int)≤7;decide,by show (7:Int)≤10;decide⟩,⟨by show (-9223372036854775808:Int)≤64;decide,by show (64:Int)≤9223372036854775807;decide⟩,by simp[vTxt,De.none0],by have:=(txt_len h.txt).1;simp only[vTxt];omega⟩
 have s1:De.step ⟨0,(t,xs) :: r,dn⟩ vOpen=⟨0,(48,[]) :: (t,xs) :: r,dn⟩:=by
  show De.opn _ 48=_
  unfold De.opn
  rw[if_neg (by decide),if_neg (by simp only[List.length_cons];omega)]
  rfl
 unfold putPart
 rw[s1,De.step_plain f1 rfl,if_pos h.oid]
 show De.step (De.step ⟨0,(48,[]++[De.elemOf (vOid p.1)]) :: (t,xs) :: r,dn⟩ (vTxt p.2)) vClose=_
 rw[De.step_plain f2 rfl,if_pos h.txt]
 show De.put ⟨0,(t,xs) :: r,dn⟩ 48 ([]++[De.elemOf (vOid p.1)]++[De.elemOf (vTxt p.2)]).flatten=_
 have e:([]++[De.elemOf (vOid p.1)]++[De.elemOf (vTxt p.2)]).flatten=De.elemOf (vOid p.1)++De.elemOf (vTxt p.2):=by simp
 rw[e,De.put,if_neg (by rw[List.length_append];omega)]
 rfl
theorem putParts_ok {t:Nat} {r:List (Nat×List (List Nat))} {dn:List (List Nat)} (hr:r.length≤14):∀ (l:List Pr) (xs:List (List Nat)),(∀ p∈l,GoodP p)→l.foldl putPart ⟨0,(t,xs) :: r,dn⟩=⟨0,(t,xs++l.map pelem) :: r,dn⟩
 |[],xs,_=>by simp
 |p :: l,xs,h=>by
  rw[List.foldl_cons,putPart_ok (h p (by simp)) hr,putParts_ok hr l _ (fun q hq=>h q (by simp[hq])),List.map_cons,List.append_assoc]
  rfl
theorem pelems_len:∀ (l:List Pr),(∀ p∈l,GoodP p)→(l.map pelem).flatten.length≤382*l.length
 |[],_=>by simp
 |p :: r,h=>by
  have h1:=(h p (by simp)).lens.2.2
  have h2:=pelems_len r (fun q hq=>h q (by simp[hq]))
  rw[List.map_cons,List.flatten_cons,List.length_append,List.length_cons]
  omega
theorem putRow_ok {l:List Pr} (h:∀ p∈l,GoodP p) (hl:l.length≤8):putRow De.St.zero l=⟨0,[],[bytesOf l]⟩:=by
 have hlen:=pelems_len l h
 unfold putRow
 rw[show De.step De.St.zero vOpen=⟨0,[(48,[])],[]⟩ from rfl,putParts_ok (by simp) l [] h,List.nil_append]
 show De.put ⟨0,[],[]⟩ 48 (l.map pelem).flatten=_
 rw[De.put,if_neg (by omega)]
 rfl
theorem bytesOf_len {l:List Pr} (h:∀ p∈l,GoodP p) (hl:l.length≤8):(bytesOf l).length≤3100:=by
 have hlen:=pelems_len l h
 have:=Tl.more_le (l.map pelem).flatten.length
 unfold bytesOf
 rw[Tl.elem_len]
 omega
theorem done_row {l:List Pr} (h:∀ p∈l,GoodP p) (hl:l.length≤8):De.done (putRow De.St.zero l)=.ok (bytesOf l):=by
 have:=bytesOf_len h hl
 rw[putRow_ok h hl]
 unfold De.done
 rw[if_neg (fun h=>h rfl),if_neg (fun h=>h rfl),List.flatten_cons,List.flatten_nil,List.append_nil,if_neg (by omega)]
theorem okc_range {c:Nat} (h:Pt.okc c=true):32≤c∧c<127:=by
 unfold Pt.okc at h
 simp at h
 omega
theorem plainF_ascii:∀ (f:Nat) (l:List Nat),(∀ x∈l,32≤x∧x<127)→Pt.plainF f l=true
 |0,_,_=>rfl
 |f+1,[],_=>by simp[Pt.plainF]
 |f+1,x :: r,h=>by
  have hx:=h x (by simp)
  have hs:Pt.step (x :: r)=some 1:=by
   rw[Pt.step1 (x :: r) (by show x<128;omega),if_neg (by show ¬ (x<32∨x=127);omega)]
  rw[Pt.plainF,if_neg (by simp),hs]
  exact plainF_ascii f r (fun y hy=>h y (by simp[hy]))
theorem ascii_asked {l:List Nat} (h0:1≤l.length) (h64:l.length≤64) (h:∀ x∈l,32≤x∧x<127):Pt.asked l 64=0:=by
 unfold Pt.asked Pt.plain
 rw[if_neg (by omega),if_neg (by omega),if_pos (plainF_ascii _ _ h)]
theorem asked_has {s:ByteArray} (h:Pt.asked (strL s) 64=0):De.has (vTxt s)=true:=by
 unfold De.has De.body vTxt
 simp only
 rw[if_neg (by decide),if_neg (by decide),if_neg (by decide),if_neg (by decide),if_pos trivial,if_pos h]
theorem label_has {s:ByteArray} (h:Pt.label (strL s)=true):De.has (vTxt s)=true:=by
 unfold Pt.label at h
 simp only[Bool.and_eq_true,List.all_eq_true,decide_eq_true_eq] at h
 exact asked_has (ascii_asked h.1.1 (by omega) (fun x hx=>okc_range (h.2.2.2 x hx)))
theorem word_has {k:Int} (h:1≤k∧k≤5):De.has (vTxt (word k))=true:=by
 refine asked_has ?_
 rcases (show k=1∨k=2∨k=3∨k=4∨k=5 by omega) with rfl|rfl|rfl|rfl|rfl <;> decide +kernel
theorem o_has {o:ByteArray} {l:List Int} (h:Od.parse (strL o)=.ok l):De.has (vOid o)=true:=by
 unfold De.has De.body vOid
 simp only
 rw[if_neg (by decide),if_neg (by decide),if_neg (by decide),if_neg (by decide),if_neg (by decide),if_pos trivial,h]
theorem o_parse:Od.parse (strL o1)=.ok [1,3,9999,1,1]∧Od.parse (strL o2)=.ok [1,3,9999,1,2]∧Od.parse (strL o3)=.ok [1,3,9999,1,3]:=by
 refine ⟨?_,?_,?_⟩
 ·rw[show strL o1=Od.text [1,3,9999,1,1] from by decide +kernel];exact Od.parse_text (by decide +kernel)
 ·rw[show strL o2=Od.text [1,3,9999,1,2] from by decide +kernel];exact Od.parse_text (by decide +kernel)
 ·rw[show strL o3=Od.text [1,3,9999,1,3] from by decide +kernel];exact Od.parse_text (by decide +kernel)
theorem o_len:(strL o1).length=12∧(strL o2).length=12∧(strL o3).length=12:=by refine ⟨?_,?_,?_⟩ <;> decide +kernel
theorem parts_good {s:Sb} (h:right s=true):∀ p∈parts s,GoodP p:=by
 obtain ⟨h1,h2,h3,h4,h5⟩:=right_facts h
 obtain ⟨q1,q2,q3⟩:=o_parse
 obtain ⟨l1,l2,l3⟩:=o_len
 intro p hp
 unfold parts at hp
 rcases List.mem_cons.1 hp with rfl|hp
 ·exact ⟨o_has q1,word_has h1,by show (strL o1).length≤300;omega⟩
 rcases List.mem_append.1 hp with hp|hp
 ·by_cases e:s.sp=e0
  ·rw[if_pos e] at hp;cases hp
  ·rw[if_neg e] at hp
   obtain rfl:=List.mem_singleton.1 hp
   have hk:s.k=2:=Decidable.byContradiction (fun h=>e (h4 h))
   exact ⟨o_has q2,label_has (h3 hk),by show (strL o2).length≤300;omega⟩
 ·obtain rfl:=List.mem_singleton.1 hp
  exact ⟨o_has q3,label_has h2,by show (strL o3).length≤300;omega⟩
theorem parts_le3 (s:Sb):(parts s).length≤3:=by
 unfold parts
 by_cases e:s.sp=e0
 ·rw[if_pos e];simp
 ·rw[if_neg e];simp
theorem putS_done {x:Sb} (h:right x=true):De.done (putS De.St.zero x)=.ok (bytesOf (parts x)):=by
 unfold putS
 rw[if_pos h]
 exact done_row (parts_good h) (by have:=parts_le3 x;omega)
end Na
namespace Na
theorem wget9_err {l:List Nat} {k:Nat} (h:Wh.get l=.error k):k≠0:=by
 revert h
 unfold Wh.get
 repeat' split
 all_goals (intro h;first|(have:=Except.error.inj h;omega)|exact absurd h (by simp))
theorem said9_err {k least most:Int} {l:List Nat} {e:Nat} (h:De.said k least most l=.error e):e≠0:=by
 unfold De.said at h
 split at h
 ·cases hw:Wh.get l with
  |error j=>rw[hw] at h;cases h;exact wget9_err hw
  |ok n =>
   rw[hw] at h
   simp only at h
   split at h
   ·cases h;decide
   ·cases h
 split at h
 ·(repeat' split at h) <;> first|(cases h;decide)|cases h
 split at h
 ·(repeat' split at h) <;> first|(cases h;decide)|cases h
 split at h
 ·split at h
  ·cases h
  ·cases h;assumption
 split at h
 ·cases ho:Od.get l with
  |error j=>rw[ho] at h;cases h;exact oget_err ho
  |ok n=>rw[ho] at h;cases h
 split at h
 ·cases ho:Cal.get l with
  |error j =>
   rw[ho] at h;cases h
   revert ho
   unfold Cal.get
   repeat' split
   all_goals (intro hw;first|(have:=Except.error.inj hw;omega)|exact absurd hw (by simp))
  |ok n=>rw[ho] at h;cases h
 ·cases ho:Pt.mask l with
  |error j =>
   rw[ho] at h;cases h
   revert ho
   unfold Pt.mask
   repeat' split
   all_goals (intro hw;first|(have:=Except.error.inj hw;omega)|exact absurd hw (by simp))
  |ok n=>rw[ho] at h;cases h
theorem join_len:∀ (ps:List (List Nat)),(∀ p∈ps,p.length≤10)→(Od.join ps).length≤11*ps.length
 |[],_=>by simp[Od.join]
 |p :: r,h=>by
  have hp:=h p (by simp)
  have ih:=join_len r (fun q hq=>h q (by simp[hq]))
  by_cases hr:r=[]
  ·subst hr
   have e:Od.join [p]=p:=by simp[Od.join]
   rw[e];simp;omega
  ·rw[Od.join_cons p r hr,List.length_append,List.length_cons,List.length_cons]
   omega
theorem otext_len {l:List Int} (h:Od.right l=true):(Od.text l).length≤300:=by
 obtain ⟨h1,h2⟩:=(Od.right_iff l).1 h
 rw[Od.text_join]
 have:=join_len (l.map fun n=>Wh.dig n.toNat) (fun p hp=>by
  obtain ⟨n,hn,rfl⟩:=List.mem_map.1 hp
  have:=h2 n hn
  have:=Od.dig_len_of 9 n.toNat (by omega) (by omega)
  omega)
 rw[List.length_map] at this
 omega
theorem ask_err {s:De.Rd} (k tag least most:Int) (h:s.e≠0):De.ask s k tag least most=(s,De.none0):=by
 unfold De.ask;rw[if_pos h]
theorem ask_e0 {s:De.Rd} {k tag least most:Int} (h:(De.ask s k tag least most).1.e=0):s.e=0:=by
 apply Decidable.byContradiction
 intro hn
 rw[ask_err _ _ _ _ hn] at h
 exact hn h
theorem next_inv {s s2:De.Rd} {tag:Nat} {b y:List Nat} (h8:∀ x∈s.top,x<256) (ht:tag≠0) (he:s.e=0) (h:De.next s (tag:Nat)=(s2,some (b,y))):s.top=Tl.elem tag b++s2.top∧s2.e=0∧s2.left=s.left∧b.length≤65530:=by
 unfold De.next at h
 rw[if_neg (by omega)] at h
 cases hf:Tl.first s.top with
 |error e=>rw[hf] at h;cases h
 |ok p =>
  obtain ⟨t,i,n⟩:=p
  rw[hf] at h
  simp only at h
  by_cases hq:(tag:Int)≠0∧(t:Int)≠(tag:Int)
  ·rw[if_pos hq] at h;cases h
  ·rw[if_neg hq] at h
   have hte:t=tag:=by
    have:¬ (t:Int)≠(tag:Int):=fun h=>hq ⟨by omega,h⟩
    omega
   obtain ⟨h1,h2⟩:=Prod.mk.inj h
   have h2:=Option.some.inj h2
   obtain ⟨h3,h4⟩:=Prod.mk.inj h2
   obtain ⟨f1,f2,f3,f4,f5⟩:=De.first_inv h8 hf
   subst h1
   refine ⟨?_,he,rfl,by rw[←h3,f4];exact f2⟩
   show s.top=_++s.top.drop (i+n)
   rw[←h3,←hte,←f5,List.take_append_drop]
theorem next_some {s:De.Rd} {tag:Int} (he:s.e=0) (h:(De.next s tag).1.e=0):∃ s2 b y,De.next s tag=(s2,some (b,y)):=by
 unfold De.next at h ⊢
 rw[if_neg (by omega)] at h ⊢
 cases hf:Tl.first s.top with
 |error e =>
  rw[hf] at h
  have h:e=0:=h
  subst h
  exact absurd rfl (De.first_err hf)
 |ok p =>
  obtain ⟨t,i,n⟩:=p
  rw[hf] at h
  simp only at h ⊢
  by_cases hq:tag≠0∧(t:Int)≠tag
  ·rw[if_pos hq] at h;exact absurd (show (5:Nat)=0 from h) (by decide)
  ·rw[if_neg hq];exact ⟨_,_,_,rfl⟩
theorem enter_inv {s:De.Rd} (h8:∀ x∈s.top,x<256) (h:(De.ask s 1 48 0 0).1.e=0):∃ b r,s.top=Tl.elem 48 b++r∧(De.ask s 1 48 0 0).1=⟨0,b,r :: s.left⟩∧b.length≤65530:=by
 have he:=ask_e0 h
 unfold De.ask at h ⊢
 rw[if_neg (by omega),if_pos rfl] at h ⊢
 unfold De.enter at h ⊢
 rw[if_neg (by omega),if_neg (by intro h;exact absurd h.2 (by decide))] at h ⊢
 cases hn:De.next s 48 with
 |mk s2 q =>
  rw[hn] at h
  have hne:(De.next s 48).1.e=0:=by
   rw[hn]
   cases q with
   |none=>exact h
   |some q=>exact h
  obtain ⟨s3,b,y,h3⟩:=next_some he hne
  rw[hn] at h3
  obtain ⟨rfl,rfl⟩:=Prod.mk.inj h3
  obtain ⟨i1,i2,i3,i4⟩:=next_inv (tag:=48) h8 (by decide) he hn
  refine ⟨b,s2.top,i1,?_,i4⟩
  show ({ s2 with top:=b,left:=s2.top :: s2.left }:De.Rd)=_
  rw[i3]
  obtain ⟨e,t,l⟩:=s2
  have:e=0:=i2
  subst this
  rfl
theorem plain_inv {s:De.Rd} {k least most:Int} {tag:Nat} (hk:k≠1∧k≠2∧k≠11) (ht:De.tagOf k=(tag:Nat)) (ht0:tag≠0) (h8:∀ x∈s.top,x<256) (h:(De.ask s k 0 least most).1.e=0):∃ b r v,s.top=Tl.elem tag b++r∧De.said k least most b=.ok v∧De.ask s k 0 least most=(⟨0,r,s.left⟩,v)∧b.length≤65530:=by
 have he:=ask_e0 h
 unfold De.ask at h ⊢
 rw[if_neg (by omega),if_neg hk.1,if_neg hk.2.1,if_neg hk.2.2,ht] at h ⊢
 cases hn:De.next s (tag:Nat) with
 |mk s2 q =>
  rw[hn] at h
  have hne:(De.next s (tag:Nat)).1.e=0:=by
   rw[hn]
   cases q with
   |none=>exact h
   |some q =>
    obtain ⟨b,y⟩:=q
    obtain ⟨_,i2,_⟩:=next_inv h8 ht0 he hn
    exact i2
  obtain ⟨s3,b,y,h3⟩:=next_some he hne
  rw[hn] at h3
  obtain ⟨rfl,rfl⟩:=Prod.mk.inj h3
  obtain ⟨i1,i2,i3,i4⟩:=next_inv h8 ht0 he hn
  simp only at h ⊢
  cases hs:De.said k least most b with
  |error e =>
   rw[hs] at h
   exact absurd h (said9_err hs)
  |ok v =>
   refine ⟨b,s2.top,v,i1,hs,?_,i4⟩
   show (s2,v)=_
   obtain ⟨e,t,l⟩:=s2
   have:e=0:=i2
   subst this
   rw[←i3]
theorem leave_inv {s:De.Rd} (h:(De.ask s 2 0 0 0).1.e=0):∃ b r,s=⟨0,[],b :: r⟩∧(De.ask s 2 0 0 0).1=⟨0,b,r⟩:=by
 have he:=ask_e0 h
 unfold De.ask at h ⊢
 rw[if_neg (by omega),if_neg (by decide),if_pos rfl] at h ⊢
 unfold De.leave at h ⊢
 rw[if_neg (by omega)] at h ⊢
 obtain ⟨e,t,l⟩:=s
 have he:e=0:=he
 subst he
 cases l with
 |nil=>exact absurd (show (24:Nat)=0 from h) (by decide)
 |cons b r =>
  simp only at h ⊢
  by_cases ht:t≠[]
  ·rw[if_pos ht] at h;exact absurd (show (4:Nat)=0 from h) (by decide)
  ·have ht:t=[]:=Decidable.byContradiction ht
   subst ht
   exact ⟨b,r,rfl,rfl⟩
theorem byt_app {t:Nat} {b r l:List Nat} (e:l=Tl.elem t b++r) (h8:∀ x∈l,x<256):(∀ x∈b,x<256)∧∀ x∈r,x<256:=by
 subst e
 refine ⟨fun x hx=>h8 x ?_,fun x hx=>h8 x (by simp[hx])⟩
 simp[Tl.elem,hx]
theorem text_lt256 (l:List Int) (h:Od.right l=true):∀ c∈Od.text l,c<256:=by
 intro c hc
 have h1:=((Od.right_iff l).1 h).2
 rw[Od.text_join] at hc
 revert hc
 have:∀ (ps:List (List Nat)),(∀ p∈ps,∀ c∈p,c<256)→∀ c∈Od.join ps,c<256:=by
  intro ps
  induction ps with
  |nil=>intro _ c hc;simp[Od.join] at hc
  |cons p r ih =>
   intro hp c hc
   by_cases hr:r=[]
   ·subst hr
    have e:Od.join [p]=p:=by simp[Od.join]
    rw[e] at hc
    exact hp p (by simp) c hc
   ·rw[Od.join_cons p r hr] at hc
    rcases List.mem_append.1 hc with hc|hc
    ·exact hp p (by simp) c hc
    ·rcases List.mem_cons.1 hc with rfl|hc
     ·decide
     ·exact ih (fun q hq=>hp q (by simp[hq])) c hc
 refine this _ (fun p hp c hc=>?_) c
 obtain ⟨n,hn,rfl⟩:=List.mem_map.1 hp
 have h3:=h1 n hn
 have:=List.all_eq_true.1 (Wh.dig_fig n.toNat (by omega)) c hc
 simp[Wh.fig] at this
 omega
theorem getPart_inv {s:De.Rd} (h8:∀ x∈s.top,x<256) (h:(getPart s).1.e=0):∃ r,s.top=pelem (getPart s).2++r∧(getPart s).1=⟨0,r,s.left⟩∧GoodP (getPart s).2:=by
 unfold getPart at h ⊢
 simp only at h ⊢
 have h3:=ask_e0 h
 have h2:=ask_e0 h3
 have h1:=ask_e0 h2
 obtain ⟨b,r,i1,i2,i3⟩:=enter_inv h8 h1
 rw[i2] at h h2 h3 ⊢
 obtain ⟨q1,q2⟩:=byt_app i1 h8
 obtain ⟨ob,r2,v2,j1,j2,j3,j4⟩:=plain_inv (k:=8) (tag:=6) (by decide) rfl (by decide) q1 h2
 rw[j3] at h h3 ⊢
 simp only at h h3 ⊢
 obtain ⟨q3,q4⟩:=byt_app (l:=b) j1 q1
 obtain ⟨tb,r3,v3,k1,k2,k3,k4⟩:=plain_inv (k:=7) (tag:=12) (by decide) rfl (by decide) q4 h3
 rw[k3] at h ⊢
 simp only at h ⊢
 obtain ⟨b',r',e1,e2⟩:=leave_inv h
 simp only[De.Rd.mk.injEq,List.cons.injEq] at e1
 obtain ⟨_,rfl,rfl,rfl⟩:=e1
 obtain ⟨q5,q6⟩:=byt_app (l:=r2) k1 q4
 unfold De.said at j2
 rw[if_neg (by decide),if_neg (by decide),if_neg (by decide),if_neg (by decide),if_pos rfl] at j2
 cases hg:Od.get ob with
 |error e=>rw[hg] at j2;cases j2
 |ok l =>
  rw[hg] at j2
  obtain rfl:=Except.ok.inj j2
  obtain ⟨g1,g2⟩:=Od.put_get q3 hg
  unfold De.said at k2
  rw[if_neg (by decide),if_neg (by decide),if_neg (by decide),if_pos rfl] at k2
  by_cases ha:Pt.asked tb 64=0
  ·rw[if_pos ha] at k2
   obtain rfl:=Except.ok.inj k2
   have ht:=text_lt256 l g2
   have hpar:Od.parse (strL (strOf (Od.text l)))=.ok l:=by rw[strL_strOf ht,Od.parse_text g2]
   have hoid:=o_has hpar
   have e6:De.elemOf (vOid (strOf (Od.text l)))=Tl.elem 6 ob:=by
    obtain ⟨l',hl',_,he'⟩:=oid_body hoid
    rw[hpar] at hl'
    obtain rfl:=Except.ok.inj hl'
    rw[he',g1]
   have htx:De.has (vTxt (strOf tb))=true:=asked_has (by rw[strL_strOf q5];exact ha)
   have e12:De.elemOf (vTxt (strOf tb))=Tl.elem 12 tb:=by
    obtain ⟨_,_,k⟩:=txt_len htx
    rw[k,strL_strOf q5]
   refine ⟨_,?_,e2,?_⟩
   ·unfold pelem
    simp only
    have j1:b=Tl.elem 6 ob++r2:=j1
    have k1:r2=Tl.elem 12 tb++[]:=k1
    rw[e6,e12,i1,j1,k1,List.append_nil]
   ·exact ⟨hoid,htx,by show (strL (strOf (Od.text l))).length≤300;rw[strL_strOf ht];exact otext_len g2⟩
  ·rw[if_neg ha] at k2;cases k2
theorem getParts_e:∀ (f:Nat) (s:De.Rd) (acc:List Pr),s.e≠0→getParts f s acc=(s,acc)
 |0,s,acc,h=>by
  have hm:De.more s=false:=by unfold De.more;simp[h]
  rw[getParts,hm];rfl
 |f+1,s,acc,h=>by
  have hm:De.more s=false:=by unfold De.more;simp[h]
  rw[getParts,hm];rfl
theorem more_not {s:De.Rd} (he:s.e=0) (h:¬ De.more s=true):s.top=[]:=by
 unfold De.more at h
 simp only[he,decide_true,Bool.true_and,decide_eq_true_eq] at h
 exact Decidable.byContradiction h
theorem getParts_inv:∀ (f:Nat) (s:De.Rd) (acc:List Pr),(∀ x∈s.top,x<256)→s.e=0→(getParts f s acc).1.e=0→∃ l,(getParts f s acc).2=acc++l∧l.length≤f∧s.top=(l.map pelem).flatten∧(getParts f s acc).1=⟨0,[],s.left⟩∧∀ p∈l,GoodP p
 |0,s,acc,h8,he,h=>by
  rw[getParts] at h ⊢
  by_cases hm:De.more s=true
  ·rw[if_pos hm] at h;exact absurd (show (3:Nat)=0 from h) (by decide)
  ·rw[if_neg hm] at h ⊢
   have ht:=more_not he hm
   refine ⟨[],by simp,Nat.le_refl _,by rw[ht];rfl,?_,by simp⟩
   obtain ⟨e,t,l⟩:=s
   have he:e=0:=he
   have ht:t=[]:=ht
   subst he;subst ht;rfl
 |f+1,s,acc,h8,he,h=>by
  rw[getParts] at h ⊢
  by_cases hm:De.more s=true
  ·rw[if_pos hm] at h ⊢
   have h1:(getPart s).1.e=0:=by
    apply Decidable.byContradiction
    intro hn
    rw[getParts_e f _ _ hn] at h
    exact hn h
   obtain ⟨r,i1,i2,i3⟩:=getPart_inv h8 h1
   have h8r:∀ x∈(getPart s).1.top,x<256:=by
    rw[i2]
    exact (byt_app (l:=s.top) i1 h8).2
   obtain ⟨l,j1,j2,j3,j4,j5⟩:=getParts_inv f _ (acc++[(getPart s).2]) h8r h1 h
   refine ⟨(getPart s).2 :: l,by rw[j1,List.append_assoc];rfl,by simpa using j2,?_,?_,fun p hp=>?_⟩
   ·rw[List.map_cons,List.flatten_cons,←j3,i2];exact i1
   ·rw[j4,i2]
   ·rcases List.mem_cons.1 hp with rfl|hp
    ·exact i3
    ·exact j5 p hp
  ·rw[if_neg hm] at h ⊢
   have ht:=more_not he hm
   refine ⟨[],by simp,Nat.zero_le _,by rw[ht];rfl,?_,by simp⟩
   obtain ⟨e,t,l⟩:=s
   have he:e=0:=he
   have ht:t=[]:=ht
   subst he;subst ht;rfl
theorem fin_zero {s:De.Rd} (h:De.fin s=0):s.e=0∧s.left=[]∧s.top=[]:=by
 unfold De.fin at h
 by_cases he:s.e≠0
 ·rw[if_pos he] at h;exact absurd h he
 ·rw[if_neg he] at h
  by_cases hl:s.left≠[]
  ·rw[if_pos hl] at h;exact absurd h (by decide)
  ·rw[if_neg hl] at h
   by_cases ht:s.top≠[]
   ·rw[if_pos ht] at h;exact absurd h (by decide)
   ·exact ⟨Decidable.byContradiction he,Decidable.byContradiction hl,Decidable.byContradiction ht⟩
theorem getS_bytes {b:List Nat} (h8:∀ x∈b,x<256) (h:De.fin (getS (De.start b)).1=0):right (getS (De.start b)).2=true∧De.done (putS De.St.zero (getS (De.start b)).2)=.ok b:=by
 obtain ⟨f1,f2,f3⟩:=fin_zero h
 unfold getS at f1 f2 f3 ⊢
 unfold getEnd at f1 f2 f3 ⊢
 by_cases he:(De.ask (getParts 8 (De.ask (De.start b) 1 48 0 0).1 []).1 2 0 0 0).1.e≠0
 ·rw[if_pos he] at f1;exact absurd f1 he
 rw[if_neg he] at f1 f2 f3 ⊢
 have he:(De.ask (getParts 8 (De.ask (De.start b) 1 48 0 0).1 []).1 2 0 0 0).1.e=0:=Decidable.byContradiction he
 have e2:=ask_e0 he
 have e1:(De.ask (De.start b) 1 48 0 0).1.e=0:=by
  apply Decidable.byContradiction
  intro hn
  rw[getParts_e 8 _ _ hn] at e2
  exact hn e2
 obtain ⟨b1,r,i1,i2,i3⟩:=enter_inv (s:=De.start b) h8 e1
 have hst:(De.start b).left=[]:=rfl
 have htp:(De.start b).top=b:=rfl
 rw[htp] at i1
 rw[hst] at i2
 have h8b:=(byt_app (l:=b) i1 h8).1
 rw[i2] at e2 he f2 f3 ⊢
 obtain ⟨l,j1,j2,j3,j4,j5⟩:=getParts_inv 8 ⟨0,b1,[r]⟩ [] h8b rfl e2
 rw[List.nil_append] at j1
 by_cases hq:right (s0 (getParts 8 ⟨0,b1,[r]⟩ []).2)=true∧parts (s0 (getParts 8 ⟨0,b1,[r]⟩ []).2)=(getParts 8 ⟨0,b1,[r]⟩ []).2
 ·rw[if_pos hq] at f2 f3 ⊢
  rw[j1] at hq ⊢
  refine ⟨hq.1,?_⟩
  show De.done (putS De.St.zero (s0 l))=_
  rw[putS_done hq.1,hq.2]
  rw[j4] at f3
  have hr:r=[]:=f3
  rw[hr,List.append_nil] at i1
  rw[i1,bytesOf,←j3]
 ·rw[i2,if_neg hq] at f1
  exact absurd (show (9:Nat)=0 from f1) (by decide)
end Na
end Go.Proofs.YtijkaknggdaajaaGreatDoor
