import Derived.Test.YtijkaknggdaajaaGreatDoorZt20
import Derived.Test.YtijkaknggdaajaaGreatDoorZt22
import Derived.Test.YtijkaknggdaajaaGreatDoorZt29
set_option linter.unusedVariables false
set_option linter.unusedSimpArgs false
namespace Go.Proofs.YtijkaknggdaajaaGreatDoor
open Go.RowKit
namespace Na
def vOpen:De.Val:={ De.none0 with kind:=1,n:=48 }
def vClose:De.Val:={ De.none0 with kind:=2 }
def vOid (o:ByteArray):De.Val:={ De.none0 with kind:=8,t:=strL o }
def vTxt (o:ByteArray):De.Val:={ De.none0 with kind:=7,n:=64,t:=strL o }
def putPart (s:De.St) (p:Pr):De.St:=De.step (De.step (De.step (De.step s vOpen) (vOid p.1)) (vTxt p.2)) vClose
def putRow (s:De.St) (l:List Pr):De.St:=De.step (l.foldl putPart (De.step s vOpen)) vClose
def putS (s:De.St) (x:Sb):De.St:=if right x=true then putRow s (parts x) else De.fail s 9
def getPart (s:De.Rd):De.Rd×Pr :=
 ((De.ask (De.ask (De.ask (De.ask s 1 48 0 0).1 8 0 0 0).1 7 0 0 64).1 2 0 0 0).1,(strOf (De.ask (De.ask s 1 48 0 0).1 8 0 0 0).2.t,strOf (De.ask (De.ask (De.ask s 1 48 0 0).1 8 0 0 0).1 7 0 0 64).2.t))
def getParts:Nat→De.Rd→List Pr→De.Rd×List Pr
 |0,s,l=>(if De.more s=true then { s with e:=3 } else s,l)
 |f+1,s,l=>if De.more s=true then getParts f (getPart s).1 (l++[(getPart s).2]) else (s,l)
def none9:Sb:=⟨0,e0,e0⟩
def getEnd (s:De.Rd) (l:List Pr):De.Rd×Sb:=if s.e≠0 then (s,none9) else if right (s0 l)=true∧parts (s0 l)=l then (s,s0 l) else ({ s with e:=9 },none9)
def getS (s:De.Rd):De.Rd×Sb:=getEnd (De.ask (getParts 8 (De.ask s 1 48 0 0).1 []).1 2 0 0 0).1 (getParts 8 (De.ask s 1 48 0 0).1 []).2
def pelem (p:Pr):List Nat:=Tl.elem 48 (De.elemOf (vOid p.1)++De.elemOf (vTxt p.2))
def bytesOf (l:List Pr):List Nat:=Tl.elem 48 (l.map pelem).flatten
structure GoodP (p:Pr):Prop where
 oid:De.has (vOid p.1)=true
 txt:De.has (vTxt p.2)=true
 len:(strL p.1).length≤300
theorem txt_len {o:ByteArray} (h:De.has (vTxt o)=true):(strL o).length≤64∧Pt.asked (strL o) 64=0∧De.elemOf (vTxt o)=Tl.elem 12 (strL o):=by
 unfold De.has De.body vTxt at h
 simp only at h
 rw[if_neg (by decide),if_neg (by decide),if_neg (by decide),if_neg (by decide),if_pos trivial] at h
 by_cases ha:Pt.asked (strL o) 64=0
 ·refine ⟨?_,ha,?_⟩
  ·have:=ha
   unfold Pt.asked at this
   by_cases h0:(strL o).length=0
   ·omega
   ·rw[if_neg h0] at this
    by_cases h3:(64:Int)<((strL o).length:Int)
    ·rw[if_pos h3] at this;exact absurd this (by decide)
    ·omega
  ·unfold De.elemOf De.body vTxt
   simp only
   rw[if_neg (by decide),if_neg (by decide),if_neg (by decide),if_neg (by decide),if_pos trivial,if_pos ha]
 ·rw[if_neg ha] at h;cases h
theorem oid_body {o:ByteArray} (h:De.has (vOid o)=true):∃ l,Od.parse (strL o)=.ok l∧De.body (vOid o)=.ok (6,Od.put l)∧De.elemOf (vOid o)=Tl.elem 6 (Od.put l):=by
 obtain ⟨t,b,hb⟩:=De.has_ok h
 have hb':=hb
 unfold De.body vOid at hb'
 simp only at hb'
 rw[if_neg (by decide),if_neg (by decide),if_neg (by decide),if_neg (by decide),if_neg (by decide),if_pos trivial] at hb'
 cases hp:Od.parse (strL o) with
 |error e=>rw[hp] at hb';cases hb'
 |ok l =>
  rw[hp] at hb'
  obtain ⟨rfl,rfl⟩:=Prod.mk.inj (Except.ok.inj hb')
  exact ⟨l,rfl,hb,De.elemOf_ok hb⟩
theorem oput_len {l:List Int} {o:ByteArray} (h3:(strL o).length≤300) (h:De.body (vOid o)=.ok (6,Od.put l)):(Od.put l).length≤300:=De.body_len (v:=vOid o) (by simp[vOid,De.none0]) (by simpa [vOid] using h3) h
theorem GoodP.lens {p:Pr} (h:GoodP p):(De.elemOf (vOid p.1)).length≤306∧(De.elemOf (vTxt p.2)).length≤70∧(pelem p).length≤382:=by
 obtain ⟨l,_,h2,h3⟩:=oid_body h.oid
 obtain ⟨k1,k2,k3⟩:=txt_len h.txt
 have:=oput_len h.len h2
 have m1:=Tl.more_le (Od.put l).length
 have m2:=Tl.more_le (strL p.2).length
 have e1:(De.elemOf (vOid p.1)).length≤306:=by rw[h3,Tl.elem_len];omega
 have e2:(De.elemOf (vTxt p.2)).length≤70:=by rw[k3,Tl.elem_len];omega
 refine ⟨e1,e2,?_⟩
 unfold pelem
 rw[Tl.elem_len,List.length_append]
 have m3:=Tl.more_le ((De.elemOf (vOid p.1)).length+(De.elemOf (vTxt p.2)).length)
 omega
theorem putPart_ok {t:Nat} {xs:List (List Nat)} {r:List (Nat×List (List Nat))} {dn:List (List Nat)} {p:Pr} (h:GoodP p) (hr:r.length≤14):putPart ⟨0,(t,xs) :: r,dn⟩ p=⟨0,(t,xs++[pelem p]) :: r,dn⟩:=by
 obtain ⟨l1,l2,l3⟩:=h.lens
 have f1:De.Fit (vOid p.1):=⟨⟨by show (3:Int)≤8;decide,by show (8:Int)≤10;decide⟩,⟨by show (-9223372036854775808:Int)≤0;decide,by show (0:Int)≤9223372036854775807;decide⟩,by simp[vOid,De.none0],by simpa [vOid] using h.len⟩
 have f2:De.Fit (vTxt p.2):=⟨⟨by show (3:Int)≤7;decide,by show (7:Int)≤10;decide⟩,⟨by show (-9223372036854775808:Int)≤64;decide,by show (64:Int)≤9223372036854775807;decide⟩,by simp[vTxt,De.none0],by have:=(txt_len h.txt).1;simp only[vTxt];omega⟩
 have s1:De.step ⟨0,(t,xs) :: r,dn⟩ vOpen=⟨0,(48,[]) :: (t,xs) :: r,dn⟩:=by
  show De.opn _ 48=_
  unfold De.opn
  rw[if_neg (by decide),if_neg (by simp only[List.length_cons];omega)]
  rfl
 unfold putPart
 rw[s1,De.step_plain f1 rfl,if_pos h.oid]
 show De.step (De.step ⟨0,(48,[]++[De.elemOf (vOid p.1)]) :: (t,xs) :: r,dn⟩ (vTxt p.2)) vClose=_
 rw[De.step_plain f2 rfl,if_pos h.txt]
 show De.put ⟨0,(t,xs) :: r,dn⟩ 48 ([]++[De.elemOf (vOid p.1)]++[De.elemOf (vTxt p.2)]).flatten=_
 have e:([]++[De.elemOf (vOid p.1)]++[De.elemOf (vTxt p.2)]).flatten=De.elemOf (vOid p.1)++De.elemOf (vTxt p.2):=by simp
 rw[e,De.put,if_neg (by rw[List.length_append];omega)]
 rfl
theorem putParts_ok {t:Nat} {r:List (Nat×List (List Nat))} {dn:List (List Nat)} (hr:r.length≤14):∀ (l:List Pr) (xs:List (List Nat)),(∀ p∈l,GoodP p)→l.foldl putPart ⟨0,(t,xs) :: r,dn⟩=⟨0,(t,xs++l.map pelem) :: r,dn⟩
 |[],xs,_=>by simp
 |p :: l,xs,h=>by
  rw[List.foldl_cons,putPart_ok (h p (by simp)) hr,putParts_ok hr l _ (fun q hq=>h q (by simp[hq])),List.map_cons,List.append_assoc]
  rfl
theorem pelems_len:∀ (l:List Pr),(∀ p∈l,GoodP p)→(l.map pelem).flatten.length≤382*l.length
 |[],_=>by simp
 |p :: r,h=>by
  have h1:=(h p (by simp)).lens.2.2
  have h2:=pelems_len r (fun q hq=>h q (by simp[hq]))
  rw[List.map_cons,List.flatten_cons,List.length_append,List.length_cons]
  omega
theorem putRow_ok {l:List Pr} (h:∀ p∈l,GoodP p) (hl:l.length≤8):putRow De.St.zero l=⟨0,[],[bytesOf l]⟩:=by
 have hlen:=pelems_len l h
 unfold putRow
 rw[show De.step De.St.zero vOpen=⟨0,[(48,[])],[]⟩ from rfl,putParts_ok (by simp) l [] h,List.nil_append]
 show De.put ⟨0,[],[]⟩ 48 (l.map pelem).flatten=_
 rw[De.put,if_neg (by omega)]
 rfl
theorem bytesOf_len {l:List Pr} (h:∀ p∈l,GoodP p) (hl:l.length≤8):(bytesOf l).length≤3100:=by
 have hlen:=pelems_len l h
 have:=Tl.more_le (l.map pelem).flatten.length
 unfold bytesOf
 rw[Tl.elem_len]
 omega
theorem done_row {l:List Pr} (h:∀ p∈l,GoodP p) (hl:l.length≤8):De.done (putRow De.St.zero l)=.ok (bytesOf l):=by
 have:=bytesOf_len h hl
 rw[putRow_ok h hl]
 unfold De.done
 rw[if_neg (fun h=>h rfl),if_neg (fun h=>h rfl),List.flatten_cons,List.flatten_nil,List.append_nil,if_neg (by omega)]
theorem enter48 {b r:List Nat} {L:List (List Nat)} (hb:b.length≤65530):De.ask ⟨0,Tl.elem 48 b++r,L⟩ 1 48 0 0=(⟨0,b,r :: L⟩,{ De.none0 with is:=true }):=by
 have hn:=De.next_elem (t:=48) (b:=b) (r:=r) (L:=L) (by decide) hb
 rw[show ((48:Nat):Int)=48 from rfl] at hn
 unfold De.ask
 rw[if_neg (fun h=>h rfl),if_pos rfl]
 unfold De.enter
 rw[if_neg (fun h=>h rfl),if_neg (by intro h;exact absurd h.2 (by decide)),hn]
theorem getPart_ok {p:Pr} {rest:List Nat} {L:List (List Nat)} (h:GoodP p):getPart ⟨0,pelem p++rest,L⟩=(⟨0,rest,L⟩,p):=by
 obtain ⟨l1,l2,l3⟩:=h.lens
 obtain ⟨l,hp,hb,he⟩:=oid_body h.oid
 obtain ⟨k1,k2,k3⟩:=txt_len h.txt
 have hpl:=oput_len h.len hb
 have a1:De.ask ⟨0,pelem p++rest,L⟩ 1 48 0 0=(⟨0,De.elemOf (vOid p.1)++De.elemOf (vTxt p.2),rest :: L⟩,{ De.none0 with is:=true }):=by
  unfold pelem
  exact enter48 (by rw[List.length_append];omega)
 have a2:De.ask ⟨0,De.elemOf (vOid p.1)++De.elemOf (vTxt p.2),rest :: L⟩ 8 0 0 0=(⟨0,De.elemOf (vTxt p.2),rest :: L⟩,{ De.none0 with t:=strL p.1 }):=by
  rw[he]
  have hn:=De.next_elem (t:=6) (b:=Od.put l) (r:=De.elemOf (vTxt p.2)) (L:=rest :: L) (by decide) (by omega)
  unfold De.ask
  rw[if_neg (fun h=>h rfl),if_neg (by decide),if_neg (by decide),if_neg (by decide),show De.tagOf 8=((6:Nat):Int) from rfl,hn]
  show (match De.said 8 0 0 (Od.put l) with | .error e=>_ | .ok v=>_)=_
  unfold De.said
  rw[if_neg (by decide),if_neg (by decide),if_neg (by decide),if_neg (by decide),if_pos rfl,Od.get_put (Od.parse_ok hp).2]
  show (_,{ De.none0 with t:=Od.text l })=_
  rw[Od.text_parse hp]
 have a3:De.ask ⟨0,De.elemOf (vTxt p.2),rest :: L⟩ 7 0 0 64=(⟨0,[],rest :: L⟩,{ De.none0 with t:=strL p.2 }):=by
  rw[k3]
  have hn:=De.next_elem (t:=12) (b:=strL p.2) (r:=[]) (L:=rest :: L) (by decide) (by omega)
  rw[List.append_nil] at hn
  unfold De.ask
  rw[if_neg (fun h=>h rfl),if_neg (by decide),if_neg (by decide),if_neg (by decide),show De.tagOf 7=((12:Nat):Int) from rfl,hn]
  show (match De.said 7 0 64 (strL p.2) with | .error e=>_ | .ok v=>_)=_
  unfold De.said
  rw[if_neg (by decide),if_neg (by decide),if_neg (by decide),if_pos rfl,if_pos k2]
 unfold getPart
 rw[a1]
 simp only
 rw[a2]
 simp only
 rw[a3]
 simp only
 rw[strOf_strL,strOf_strL]
 rfl
theorem more_cons {b:List Nat} {L:List (List Nat)} (h:b≠[]):De.more ⟨0,b,L⟩=true:=by
 unfold De.more
 simp[h]
theorem pelem_ne (p:Pr) (r:List Nat):pelem p++r≠[]:=by simp[pelem,Tl.elem]
theorem getParts_ok {L:List (List Nat)}:∀ (l:List Pr) (f:Nat) (acc:List Pr),(∀ p∈l,GoodP p)→l.length≤f→getParts f ⟨0,(l.map pelem).flatten,L⟩ acc=(⟨0,[],L⟩,acc++l)
 |[],f,acc,_,_=>by
  have hm:De.more ⟨0,[],L⟩=false:=rfl
  cases f with
  |zero=>rw[List.map_nil,List.flatten_nil,getParts,hm,List.append_nil];rfl
  |succ f=>rw[List.map_nil,List.flatten_nil,getParts,hm,List.append_nil];rfl
 |p :: l,0,acc,_,hf=>by simp at hf
 |p :: l,f+1,acc,h,hf=>by
  rw[List.map_cons,List.flatten_cons,getParts,if_pos (more_cons (pelem_ne p _)),getPart_ok (h p (by simp))]
  simp only
  rw[getParts_ok l f _ (fun q hq=>h q (by simp[hq])) (by simpa using hf),List.append_assoc]
  rfl
theorem loop_fit (k:Nat):∀ (xs:List (List Nat)) (f:Nat) (ah:List Nat) (d:Nat),(∀ x∈xs,∃ t b,Tl.known (t:Nat)=true∧b.length≤65530∧x=Tl.elem t b∧∃ m,Tl.within k t b=.ok m)→xs.flatten.length≤f→∃ m,Tl.loop (Tl.within k) false false f xs.flatten ah d=.ok m
 |[],f,ah,d,_,_=>⟨d,by cases f <;> simp[Tl.loop]⟩
 |x :: r,f,ah,d,hx,hf=>by
  obtain ⟨t,b,hk,hb,rfl,m0,hm0⟩:=hx x (by simp)
  have hl:=Tl.elem_len t b
  rw[List.flatten_cons,List.length_append,hl] at hf
  obtain ⟨g,rfl⟩:∃ g,f=g+1:=⟨f-1,by omega⟩
  have hne:Tl.elem t b++r.flatten≠[]:=by simp[Tl.elem]
  obtain ⟨m,hm2⟩:=loop_fit k r g ((Tl.elem t b++r.flatten).take (2+Tl.more b.length+b.length)) (max d m0) (fun y hy=>hx y (by simp[hy])) (by omega)
  refine ⟨m,?_⟩
  rw[List.flatten_cons,Tl.loop,if_neg hne,Tl.first_ok t b _ hk hb]
  simp only[Bool.false_eq_true,if_false,Tl.elem_body,hm0,Bool.false_and]
  rw[Tl.elem_rest]
  exact hm2
theorem within_made {k:Nat} {xs:List (List Nat)} (h:∀ x∈xs,∃ t b,Tl.known (t:Nat)=true∧b.length≤65530∧x=Tl.elem t b∧∃ m,Tl.within (k+1) t b=.ok m):∃ m,Tl.within (k+2) 48 xs.flatten=.ok m:=by
 obtain ⟨m,hm⟩:=loop_fit (k+1) xs xs.flatten.length [] 0 h (Nat.le_refl _)
 refine ⟨1+m,?_⟩
 show Tl.within ((k+1)+1) 48 xs.flatten=_
 rw[Tl.within,if_pos (by decide)]
 show (match Tl.loop (Tl.within (k+1)) false false xs.flatten.length xs.flatten [] 0 with | .error e=>_ | .ok d=>_)=_
 rw[hm]
theorem within_plain {k t:Nat} {b:List Nat} (h:Tl.made (t:Nat)=false):∃ m,Tl.within (k+1) t b=.ok m:=⟨1,by rw[Tl.within,h];rfl⟩
theorem pelem_fit {p:Pr} (h:GoodP p) (k:Nat):∃ t b,Tl.known (t:Nat)=true∧b.length≤65530∧pelem p=Tl.elem t b∧∃ m,Tl.within (k+2) t b=.ok m:=by
 obtain ⟨l1,l2,l3⟩:=h.lens
 obtain ⟨l,hp,hb,he⟩:=oid_body h.oid
 obtain ⟨k1,k2,k3⟩:=txt_len h.txt
 have hpl:=oput_len h.len hb
 refine ⟨48,_,by decide,?_,rfl,?_⟩
 ·rw[List.length_append];omega
 ·have:=within_made (k:=k) (xs:=[De.elemOf (vOid p.1),De.elemOf (vTxt p.2)]) (fun x hx=>by
   rcases List.mem_cons.1 hx with rfl|hx
   ·exact ⟨6,Od.put l,by decide,by omega,he,within_plain (by decide)⟩
   ·obtain rfl:=List.mem_singleton.1 hx
    exact ⟨12,strL p.2,by decide,by omega,k3,within_plain (by decide)⟩)
  simpa using this
theorem start_row {l:List Pr} (h:∀ p∈l,GoodP p) (hl:l.length≤8):De.start (bytesOf l)=⟨0,bytesOf l,[]⟩:=by
 have hlen:=pelems_len l h
 obtain ⟨m,hm⟩:=within_made (k:=14) (xs:=l.map pelem) (fun x hx=>by
  obtain ⟨p,hp,rfl⟩:=List.mem_map.1 hx
  exact pelem_fit (h p hp) 13)
 have hlev:Tl.levels (bytesOf l)=.ok m:=by
  unfold bytesOf
  rw[De.levels_elem (by decide) (by omega)]
  exact hm
 unfold De.start
 rw[hlev]
theorem row_back {l:List Pr} (h:∀ p∈l,GoodP p) (hl:l.length≤8):(De.ask (getParts 8 (De.ask (De.start (bytesOf l)) 1 48 0 0).1 []).1 2 0 0 0).1=⟨0,[],[]⟩∧(getParts 8 (De.ask (De.start (bytesOf l)) 1 48 0 0).1 []).2=l:=by
 have hlen:=pelems_len l h
 have e1:De.ask (De.start (bytesOf l)) 1 48 0 0=(⟨0,(l.map pelem).flatten,[[]]⟩,{ De.none0 with is:=true }):=by
  rw[start_row h hl]
  have:=enter48 (b:=(l.map pelem).flatten) (r:=[]) (L:=[]) (by omega)
  rw[List.append_nil] at this
  exact this
 rw[e1]
 simp only
 rw[getParts_ok l 8 [] h hl,List.nil_append]
 exact ⟨rfl,rfl⟩
theorem okc_range {c:Nat} (h:Pt.okc c=true):32≤c∧c<127:=by
 unfold Pt.okc at h
 simp at h
 omega
theorem plainF_ascii:∀ (f:Nat) (l:List Nat),(∀ x∈l,32≤x∧x<127)→Pt.plainF f l=true
 |0,_,_=>rfl
 |f+1,[],_=>by simp[Pt.plainF]
 |f+1,x :: r,h=>by
  have hx:=h x (by simp)
  have hs:Pt.step (x :: r)=some 1:=by
   rw[Pt.step1 (x :: r) (by show x<128;omega),if_neg (by show ¬ (x<32∨x=127);omega)]
  rw[Pt.plainF,if_neg (by simp),hs]
  exact plainF_ascii f r (fun y hy=>h y (by simp[hy]))
theorem ascii_asked {l:List Nat} (h0:1≤l.length) (h64:l.length≤64) (h:∀ x∈l,32≤x∧x<127):Pt.asked l 64=0:=by
 unfold Pt.asked Pt.plain
 rw[if_neg (by omega),if_neg (by omega),if_pos (plainF_ascii _ _ h)]
theorem asked_has {s:ByteArray} (h:Pt.asked (strL s) 64=0):De.has (vTxt s)=true:=by
 unfold De.has De.body vTxt
 simp only
 rw[if_neg (by decide),if_neg (by decide),if_neg (by decide),if_neg (by decide),if_pos trivial,if_pos h]
theorem label_has {s:ByteArray} (h:Pt.label (strL s)=true):De.has (vTxt s)=true:=by
 unfold Pt.label at h
 simp only[Bool.and_eq_true,List.all_eq_true,decide_eq_true_eq] at h
 exact asked_has (ascii_asked h.1.1 (by omega) (fun x hx=>okc_range (h.2.2.2 x hx)))
theorem word_has {k:Int} (h:1≤k∧k≤5):De.has (vTxt (word k))=true:=by
 refine asked_has ?_
 rcases (show k=1∨k=2∨k=3∨k=4∨k=5 by omega) with rfl|rfl|rfl|rfl|rfl <;> decide +kernel
theorem o_has {o:ByteArray} {l:List Int} (h:Od.parse (strL o)=.ok l):De.has (vOid o)=true:=by
 unfold De.has De.body vOid
 simp only
 rw[if_neg (by decide),if_neg (by decide),if_neg (by decide),if_neg (by decide),if_neg (by decide),if_pos trivial,h]
theorem o_parse:Od.parse (strL o1)=.ok [1,3,9999,1,1]∧Od.parse (strL o2)=.ok [1,3,9999,1,2]∧Od.parse (strL o3)=.ok [1,3,9999,1,3]:=by
 refine ⟨?_,?_,?_⟩
 ·rw[show strL o1=Od.text [1,3,9999,1,1] from by decide +kernel];exact Od.parse_text (by decide +kernel)
 ·rw[show strL o2=Od.text [1,3,9999,1,2] from by decide +kernel];exact Od.parse_text (by decide +kernel)
 ·rw[show strL o3=Od.text [1,3,9999,1,3] from by decide +kernel];exact Od.parse_text (by decide +kernel)
theorem o_len:(strL o1).length=12∧(strL o2).length=12∧(strL o3).length=12:=by refine ⟨?_,?_,?_⟩ <;> decide +kernel
theorem parts_good {s:Sb} (h:right s=true):∀ p∈parts s,GoodP p:=by
 obtain ⟨h1,h2,h3,h4,h5⟩:=right_facts h
 obtain ⟨q1,q2,q3⟩:=o_parse
 obtain ⟨l1,l2,l3⟩:=o_len
 intro p hp
 unfold parts at hp
 rcases List.mem_cons.1 hp with rfl|hp
 ·exact ⟨o_has q1,word_has h1,by show (strL o1).length≤300;omega⟩
 rcases List.mem_append.1 hp with hp|hp
 ·by_cases e:s.sp=e0
  ·rw[if_pos e] at hp;cases hp
  ·rw[if_neg e] at hp
   obtain rfl:=List.mem_singleton.1 hp
   have hk:s.k=2:=Decidable.byContradiction (fun h=>e (h4 h))
   exact ⟨o_has q2,label_has (h3 hk),by show (strL o2).length≤300;omega⟩
 ·obtain rfl:=List.mem_singleton.1 hp
  exact ⟨o_has q3,label_has h2,by show (strL o3).length≤300;omega⟩
theorem parts_le3 (s:Sb):(parts s).length≤3:=by
 unfold parts
 by_cases e:s.sp=e0
 ·rw[if_pos e];simp
 ·rw[if_neg e];simp
theorem putS_done {x:Sb} (h:right x=true):De.done (putS De.St.zero x)=.ok (bytesOf (parts x)):=by
 unfold putS
 rw[if_pos h]
 exact done_row (parts_good h) (by have:=parts_le3 x;omega)
theorem getS_back {x:Sb} (h:right x=true):getS (De.start (bytesOf (parts x)))=(⟨0,[],[]⟩,x):=by
 obtain ⟨e1,e2⟩:=row_back (parts_good h) (by have:=parts_le3 x;omega)
 unfold getS
 rw[e1,e2]
 unfold getEnd
 rw[if_neg (fun h=>h rfl),s0_parts h,if_pos ⟨h,rfl⟩]
end Na
end Go.Proofs.YtijkaknggdaajaaGreatDoor
