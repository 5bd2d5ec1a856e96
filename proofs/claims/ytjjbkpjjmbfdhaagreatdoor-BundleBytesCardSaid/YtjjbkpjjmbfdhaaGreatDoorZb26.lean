import Derived.Test.YtjjbkpjjmbfdhaaGreatDoorZb00
import Derived.Test.YtjjbkpjjmbfdhaaGreatDoorZb01
import Derived.Test.YtjjbkpjjmbfdhaaGreatDoorZb02
import Derived.Test.YtjjbkpjjmbfdhaaGreatDoorZb03
import Derived.Test.YtjjbkpjjmbfdhaaGreatDoorZb11
import Derived.Test.YtjjbkpjjmbfdhaaGreatDoorZb14
import Derived.Test.YtjjbkpjjmbfdhaaGreatDoorZb19
import Derived.WalkKit
import Derived.BigQuiet
import Derived.Lib.AtoiBound
import Derived.Shelf.Strconv.Atoi
import Derived.Shelf.Strconv.Itoa3
import Derived.Shelf.LaysM
import Derived.Shelf.LaysC
import Derived.Shelf.Strconv.ErrVar
import Derived.Test.YtjjbkpjjmbfdhaaGreatDoorProg
set_option linter.unusedVariables false
set_option linter.unusedSimpArgs false
set_option maxRecDepth 100000
set_option maxHeartbeats 2000000
namespace Go.Proofs.YtjjbkpjjmbfdhaaGreatDoor
open Lib (hid)
open Go.RowKit
theorem figs_parts {L:List Nat} (h:Wh.figs L=true):1≤L.length∧L.length≤18∧L.all Wh.fig=true∧Wh.dig (Wh.pval L)=L:=by
 obtain ⟨⟨h1,h2⟩,h3,h4⟩:=(Wh.figs_iff L).1 h
 exact ⟨h1,h2,h3,h4⟩
theorem strOf_append (a b:List Nat):strOf (a++b)=strOf a++strOf b:=by
 apply ByteArray.ext
 simp[strOf,ByteArray.data_append]
theorem digF_len:∀ (f n:Nat),(Wh.digF f n).length≤f+1
 |0,n=>by simp[Wh.digF]
 |f+1,n=>by
  rw[Wh.digF]
  split
  ·simp
  ·have:=digF_len f (n/10)
   simp
   omega
theorem dig_len (n:Nat):(Wh.dig n).length≤21:=digF_len 20 n
theorem conv_i8 (k:Nat) (hk:k<256) (w:World):(convert 3 5 (.int .i64 ((k:Nat):Int))).run Tryz.prog w=.ok (.int .u8 ((k:Nat):Int)) w:=by
 simp[go_sem]
 simp only[IntKind.wrap,IntKind.bits,IntKind.signed]
 simp
 omega
theorem build_u8 (k:Nat) (w:World):(Instr.buildSlice 27 1 #[(0,.int .u8 ((k:Nat):Int))]).run Tryz.prog w=.ok (.slice (some ⟨w.heap.size,0,none⟩) 1 1) (w.alloc (.cells #[.int .u8 ((k:Nat):Int)] 5)):=by
 simp[go_sem]
theorem refSerial_any (u:Nat) (hu:u<9223372036854775808):∀ w,
  Calls Tryz.prog 183 #[.int .i64 (u:Int)] w fun e w'=>e=.returned (.string (strOf (Wh.dig u)))∧w.grownBy w' none:=by
 induction u using Nat.strongRecOn with
 |_ u ih =>
  intro w
  by_cases h10:u<10
  ·have HX:Hid (strOf (Wh.dig u)=strOf [48+u]):=hid (by rw[Wh.dig_small h10])
   have HB:Hid (Bytes (w.alloc (.cells #[.int .u8 ((48:Int)+(u:Int))] 5)) (.slice (some ⟨w.heap.size,0,none⟩) 1 1) [48+u]):=hid (Bytes.lit (l:=[48+u]) (t:=5) (fr:=(0,0)) (by rw[alloc_at];simp[cellsL]) (by simp;omega))
   have HG:=hid (World.grownBy_alloc w (.cells #[.int .u8 ((48:Int)+(u:Int))] 5) none)
   have hc:=conv_bytes (P:=Tryz.prog) HB.out 27 5 9 Tryz.underlying27 Tryz.underlying5 Tryz.underlying9
   rw[HX.out]
   generalize strOf [48+u]=t at *
   clear ih hu
   go_enter Tryz.func183,Tryz.ntmps183
   go_wp2
   go_ret
   exact ⟨rfl,HG.out⟩
  ·have h:=ih (u/10) (by omega) (by omega)
   have HX:Hid (strOf (Wh.dig u)=strOf (Wh.dig (u/10))++strOf [48+u%10]):=hid (by rw[Wh.dig_step (by omega) (by omega),strOf_append])
   have hlen:(strOf (Wh.dig (u/10))).size+(strOf [48+u%10]).size≤1000:=by
    rw[strOf_size,strOf_size]
    have:=dig_len (u/10)
    simp
    omega
   have Hlen:=hid hlen
   have hS2:∀ w x,Bytes w x [48+u%10]→(convert 27 9 x).run Tryz.prog w=.ok (.string (strOf [48+u%10])) w:=fun w x hx=>conv_bytes hx _ 5 _ Tryz.underlying27 Tryz.underlying5 Tryz.underlying9
   have HS2:=hid hS2
   have HI:=hid h
   rw[HX.out]
   generalize strOf (Wh.dig (u/10))=T1 at *
   generalize strOf [48+u%10]=T2 at *
   clear ih hlen hS2 h
   go_enter Tryz.func183,Tryz.ntmps183
   go_wp2
   refine rs_region _ u T1 T2 w _ _ rfl rfl (fun W _=>(HI.out W).mono (fun e w' ⟨h1,h2⟩=>⟨_,h1,h2,rfl⟩)) (conv_i8 _ (by omega)) (build_u8 _) (by omega) HS2.out ?_ ?_ ?_ Hlen.out ⟨rfl,rfl,rfl,Nat.le_refl _,fun _ _ _=>rfl⟩ (fun us w4 hg4=>?_)
   ·simp only[IntKind.wrap,IntKind.bits,IntKind.signed]
    rw[Int.tdiv_eq_ediv_of_nonneg (by omega)]
    simp
    omega
   ·rw[Int.tmod_eq_emod_of_nonneg (by omega)]
    omega
   ·simp only[IntKind.wrap,IntKind.bits,IntKind.signed]
    simp
    omega
   simp only[fill_cons,fill_nil,Act.put,List.setIfInBounds_toArray,List.set_cons_succ,List.set_cons_zero]
   have HG4:=hid hg4
   clear hg4
   go_wp2
   go_ret
   exact ⟨rfl,HG4.out⟩
theorem pval_take (l:List Nat) (k:Nat) (h:k<l.length):Wh.pval (l.take (k+1))=Wh.pval (l.take k)*10+(l.getD k 0-48):=by
 have e:l.getD k 0=l[k]:=by rw[List.getD_eq_getElem?_getD,List.getElem?_eq_getElem h];rfl
 rw[List.take_add_one,List.getElem?_eq_getElem h,Option.toList_some,Wh.pval_snoc,e]
theorem fig_take (l:List Nat) (k:Nat) (h:k<l.length):(l.take (k+1)).all Wh.fig=((l.take k).all Wh.fig&&Wh.fig (l.getD k 0)):=by
 have e:l.getD k 0=l[k]:=by rw[List.getD_eq_getElem?_getD,List.getElem?_eq_getElem h];rfl
 rw[List.take_add_one,List.getElem?_eq_getElem h,Option.toList_some,List.all_append,e]
 simp
theorem figs_pre {l:List Nat} {k:Nat} (h:(l.take k).all Wh.fig=false):Wh.figs l=false:=by
 cases hf:Wh.figs l
 ·rfl
 ·have h3:=(figs_parts hf).2.2.1
  rw[←Bool.not_eq_true] at h
  refine absurd ?_ h
  rw[List.all_eq_true] at h3 ⊢
  exact fun x hx=>h3 x (List.mem_of_mem_take hx)
def figOut (L:List Nat):Int×Bool:=if Wh.figs L=true then ((Wh.pval L:Nat),true) else (0,false)
theorem refFigures_any (s:ByteArray) (w:World) :
  Calls Tryz.prog 165 #[.string s] w fun e w'=>e=.returned (.tuple #[.int .i64 (figOut (strL s)).1,.bool (figOut (strL s)).2])∧w.grownBy w' none:=by
 obtain ⟨L,hL⟩:∃ L,L=strL s:=⟨_,rfl⟩
 obtain ⟨n,hn⟩:∃ n,n=s.size:=⟨_,rfl⟩
 have hLn:L.length=n:=by rw[hL,strL_len,hn]
 have HIx:Hid (∀ j:Nat,j<n→∀ W,(Instr.index 9 (.string s) (.int .i64 (j:Int))).run Tryz.prog W=.ok (.int .u8 (L.getD j 0:Nat)) W):=hid (fun j hj W=>by
  have hjs:j<s.size:=by omega
  have h2:(0:Int)≤(j:Int)∧(j:Int)<(s.size:Int):=⟨by omega,by omega⟩
  have e:=strL_getD s j hjs
  rw[←hL] at e
  rw[run_index_string W _ s .i64 j Tryz.underlying9,dif_pos h2,←e]
  rfl)
 have HBad:Hid (Wh.figs L=false→figOut L=(0,false)):=hid (fun h=>by rw[figOut,if_neg (by rw[h];simp)])
 rw[←hL]
 have hsz:((s.size:Nat):Int)=n:=by rw[hn]
 by_cases hlen:1≤n∧n≤18
 ·obtain ⟨hl1,hl2⟩:=hlen
  have HSt:Hid (∀ k,k<n→Wh.pval (L.take (k+1))=Wh.pval (L.take k)*10+(L.getD k 0-48)∧(L.take (k+1)).all Wh.fig=((L.take k).all Wh.fig&&Wh.fig (L.getD k 0))∧L.getD k 0<256):=hid (fun k hk =>
   ⟨pval_take L k (by omega),fig_take L k (by omega),getD_small (by rw[hL];exact strL_lt s) k⟩)
  have HPv:Hid (∀ k,k≤n→(L.take k).all Wh.fig=true→Wh.pval (L.take k)<1000000000000000000):=hid (fun k hk h=>by
   have h1:=Wh.pval_lt _ h
   rw[List.length_take,Nat.min_eq_left (by omega)] at h1
   exact Nat.lt_of_lt_of_le h1 (Nat.le_trans (Nat.pow_le_pow_right (by decide) (show k≤18 by omega)) (by decide)))
  have HPw:Hid (∀ k,k<n→(L.take k).all Wh.fig=true→Wh.pval (L.take k)<100000000000000000):=hid (fun k hk h=>by
   have h1:=Wh.pval_lt _ h
   rw[List.length_take,Nat.min_eq_left (by omega)] at h1
   exact Nat.lt_of_lt_of_le h1 (Nat.le_trans (Nat.pow_le_pow_right (by decide) (show k≤17 by omega)) (by decide)))
  have HT:Hid (L.take n=L):=hid (List.take_of_length_le (by omega))
  have HLs:Hid (L=strL s):=hid hL
  have HLn:=hid hLn
  have HN:=hid hn
  have HPr:Hid (∀ k,(L.take k).all Wh.fig=false→Wh.figs L=false):=hid (fun k h=>figs_pre h)
  have HRS:=hid (fun u hu W=>refSerial_any u hu W)
  clear hLn hL hn
  go_enter Tryz.func165,Tryz.ntmps165
  go_wp2
  go_loopw [4,5] (fun v i wr=>∃ k:Nat,k≤n∧v=.int .i64 (Wh.pval (L.take k):Nat)∧i=.int .i64 k∧(L.take k).all Wh.fig=true∧wr=w) (fun _ i _=>n-(intOf i).toNat)
  case atStart=>exact ⟨0,by omega,rfl,rfl,rfl,rfl⟩
  case round =>
   obtain ⟨k,hk,rfl,rfl,hfg,rfl⟩:=hrel
   have hpv:=HPv.out k hk hfg
   have HFg:=hid hfg
   clear hfg
   by_cases hkn:k<n
   ·have hix:=HIx.out k hkn
    have hpw:=HPw.out k hkn HFg.out
    clear hpv
    obtain ⟨s1,s2,s3⟩:=HSt.out k hkn
    rw[HFg.out,Bool.true_and] at s2
    have S1:=hid s1
    have S2:=hid s2
    clear s1 s2
    have HPk:=HPr.out (k+1)
    rw[S2.out] at HPk
    have HPk2:=hid HPk
    clear HPk
    generalize L.getD k 0=c at *
    generalize Wh.pval (L.take k)=q at *
    by_cases hc:c<48
    ·have hff:Wh.fig c=false:=by simp[Wh.fig];omega
     have HO:=hid (HBad.out (HPk2.out hff))
     go_wp2
     go_ret2
     rw[HO.out]
     exact ⟨rfl,grown_refl _ _⟩
    ·by_cases hc2:57<c
     ·have hff:Wh.fig c=false:=by simp[Wh.fig];omega
      have HO:=hid (HBad.out (HPk2.out hff))
      go_wp2
      go_ret2
      rw[HO.out]
      exact ⟨rfl,grown_refl _ _⟩
     ·have hff:Wh.fig c=true:=by simp[Wh.fig];omega
      have HFf:=hid hff
      clear hff
      go_wp2
      go_roundw
      case rel=>exact ⟨k+1,by omega,by rw[S1.out];go_num,by go_num,by rw[S2.out];exact HFf.out,trivial⟩
      case measure=>simp[intOf];omega
   ·obtain rfl:k=n:=by omega
    rw[HT.out] at hpv HFg ⊢
    obtain ⟨q,hq⟩:∃ q,q=Wh.pval L:=⟨_,rfl⟩
    have HQ:=hid hq
    rw[←hq] at hpv ⊢
    have hsb:((strOf (Wh.dig q)).toList==s.toList)=decide (Wh.dig q=L):=by
     rw[str_beq,strL_strOf,HLs.out]
     intro x hx
     have:=List.all_eq_true.1 (Wh.dig_fig q (by omega)) x hx
     simp[Wh.fig] at this
     omega
    have HRq:=hid (HRS.out q (by omega))
    generalize strOf (Wh.dig q)=t at *
    clear hq
    by_cases he:Wh.dig q=L
    ·have hfi:Wh.figs L=true:=(Wh.figs_iff L).2 ⟨⟨by rw[HLn.out];exact hl1,by rw[HLn.out];exact hl2⟩,HFg.out,by rw[←HQ.out];exact he⟩
     have HO:Hid (figOut L=((q:Int),true)):=hid (by rw[figOut,if_pos hfi,HQ.out])
     rw[decide_eq_true he] at hsb
     have hne:(t.toList != s.toList)=false:=by rw[bne,hsb];rfl
     clear he hfi
     go_wp2_with (go_at_call 183;refine (HRq.out _).mono ?_;rintro e w1 ⟨rfl,hg1⟩;have HG1:=hid hg1;clear hg1)
     go_ret2
     rw[HO.out]
     exact ⟨rfl,HG1.out⟩
    ·have hfi:Wh.figs L=false:=by
      cases hf:Wh.figs L
      ·rfl
      ·exact absurd (by rw[HQ.out];exact (figs_parts hf).2.2.2) he
     have HO:=hid (HBad.out hfi)
     rw[decide_eq_false he] at hsb
     have hne:(t.toList != s.toList)=true:=by rw[bne,hsb];rfl
     clear he hfi
     go_wp2_with (go_at_call 183;refine (HRq.out _).mono ?_;rintro e w1 ⟨rfl,hg1⟩;have HG1:=hid hg1;clear hg1)
     go_ret2
     rw[HO.out]
     exact ⟨rfl,HG1.out⟩
 ·have hfi:Wh.figs L=false:=by
   cases hf:Wh.figs L
   ·rfl
   ·have:=figs_parts hf
    omega
  have HO:=hid (HBad.out hfi)
  clear hfi hLn hL hn
  by_cases h0:n<1
  ·go_enter Tryz.func165,Tryz.ntmps165
   go_wp2
   go_ret2
   rw[HO.out]
   exact ⟨rfl,grown_refl _ _⟩
  ·have h18:18<n:=by omega
   clear hlen
   go_enter Tryz.func165,Tryz.ntmps165
   go_wp2
   go_ret2
   rw[HO.out]
   exact ⟨rfl,grown_refl _ _⟩
theorem own_apart {w:World} {b1 b2:Nat} {e1 e2:TypeId} {s1 s2:Nat} {v1 v2:Value} {n1 n2:Nat} {x1 x2:List Value} (h1:w.ownsRow b1 e1 s1 v1 n1 x1) (h2:w.ownsRow b2 e2 s2 v2 n2 x2) (he:e1≠e2):v1.ownBlock=none∨v1.ownBlock≠v2.ownBlock:=by
 rcases h1.2 with ⟨rfl,_⟩|⟨g1,_,_,rfl,_,k1,_⟩
 ·exact .inl rfl
 ·right
  rcases h2.2 with ⟨rfl,_⟩|⟨g2,_,_,rfl,_,k2,_⟩
  ·simp[Value.ownBlock]
  ·simp only[Value.ownBlock,ne_eq,Option.some.injEq]
   intro e
   subst e
   rw[k1] at k2
   simp at k2
   exact he k2.2
namespace Od
theorem splitA_pos:∀ (l acc:List Nat),0<(splitA acc l).length
 |[],acc=>by simp[splitA]
 |c :: r,acc=>by
  rw[splitA]
  split
  ·simp
  ·exact splitA_pos r _
theorem splitA_len:∀ (l acc:List Nat),(splitA acc l).length≤l.length+1
 |[],acc=>by simp[splitA]
 |c :: r,acc=>by
  rw[splitA]
  split
  ·have:=splitA_len r [];simp;omega
  ·have:=splitA_len r (acc++[c]);simp;omega
theorem splitA_lt:∀ (l acc:List Nat),(∀ x∈l,x<256)→(∀ x∈acc,x<256)→∀ p∈splitA acc l,∀ x∈p,x<256
 |[],acc,_,ha,p,hp=>by
  simp[splitA] at hp
  subst hp
  exact ha
 |c :: r,acc,hl,ha,p,hp=>by
  rw[splitA] at hp
  split at hp
  ·rcases List.mem_cons.1 hp with rfl|hp
   ·exact ha
   ·exact splitA_lt r [] (fun x hx=>hl x (by simp[hx])) (by simp) p hp
  ·exact splitA_lt r (acc++[c]) (fun x hx=>hl x (by simp[hx])) (fun x hx=>by
    rcases List.mem_append.1 hx with h|h
    ·exact ha x h
    ·simp at h;subst h;exact hl x (by simp)) p hp
theorem arcs_cons (p:List Nat) (r:List (List Nat)):arcs (p :: r)=match part p with|none=>none|some n=>(arcs r).map (n :: ·):=by
 rw[arcs]
 cases part p <;> cases arcs r <;> rfl
theorem arcs_step (ps:List (List Nat)) (ns:List Int) (k:Nat) (hk:k<ps.length) (h:arcs ps=(arcs (ps.drop k)).map (ns ++ ·)) :
  match part (ps.getD k []) with|none=>arcs ps=none|some n=>arcs ps=(arcs (ps.drop (k+1))).map ((ns++[n]) ++ ·):=by
 rw[List.drop_eq_getElem_cons hk,arcs_cons] at h
 have e:ps.getD k []=ps[k]:=by rw[List.getD_eq_getElem?_getD,List.getElem?_eq_getElem hk];rfl
 rw[e]
 cases hp:part ps[k] with
 |none=>rw[hp] at h;exact h
 |some n =>
  rw[hp] at h
  simp only[Option.map_map] at h
  rw[h]
  congr 1
  funext x
  simp
end Od
def PsPost (w w':World) (r:Except Nat (List Int)) (e:Ending):Prop :=
 match r with
 |.ok l=>∃ v,e=.returned (.tuple #[v,.int .i64 0])∧FrI w w' v l
 |.error k=>e=.returned (.tuple #[.slice none 0 0,.int .i64 k])∧w.grownBy w' none
theorem strInt:9≠3:=by decide
theorem appI_both {w b c:World} {v v' V:Value} {ns:List Int} {q:Int} {b2 m:Nat} {xs:List Value} (hF:FrI w b v ns) (hO:b.ownsRow b2 9 1 V m xs)
  (ho:c.ownsRow w.heap.size 3 1 v' (ns.length+1) (cellsI ns++[.int .i64 q])) (hg:b.grownBy c v.ownBlock):FrI w c v' (ns++[q])∧c.ownsRow b2 9 1 V m xs :=
 ⟨hF.step ho hg (by rw[cellsI_append];rfl),hO.kept hg (own_apart hO hF.own strInt)⟩
theorem refParse_any (s:ByteArray) (w:World) (hs:s.size≤1000000) :
  Calls Tryz.prog 129 #[.string s] w fun e w'=>PsPost w w' (Od.parse (strL s)) e:=by
 obtain ⟨PS,hPS⟩:∃ PS,PS=Od.split (strL s):=⟨_,rfl⟩
 have hsp:=fun W=>refSplit_any s W (by omega)
 rw[←hPS] at hsp
 have hpos:0<PS.length:=by rw[hPS];exact Od.splitA_pos _ _
 have hlen:PS.length≤1000001:=by
  have:=Od.splitA_len (strL s) []
  rw[strL_len] at this
  rw[hPS,Od.split];omega
 have hplt:∀ p∈PS,∀ x∈p,x<256:=by rw[hPS];exact Od.splitA_lt _ _ (strL_lt s) (by simp)
 have HParse:Hid (Od.parse (strL s)=match Od.arcs PS with|none=>.error 4|some a=>if Od.right a=true then .ok a else .error 1):=hid (by rw[hPS];rfl)
 have HStep:=hid (Od.arcs_step PS)
 have HFg:Hid (∀ k,k<PS.length→∀ W,Calls Tryz.prog 165 #[.string (strOf (PS.getD k []))] W fun e w'=>e=.returned (.tuple #[.int .i64 (figOut (PS.getD k [])).1,.bool (figOut (PS.getD k [])).2])∧W.grownBy w' none):=hid (fun k hk W=>by
  have:=refFigures_any (strOf (PS.getD k [])) W
  rw[strL_strOf (hplt _ (by rw[List.getD_eq_getElem?_getD,List.getElem?_eq_getElem hk];exact List.getElem_mem hk))] at this
  exact this)
 obtain ⟨m,hm⟩:∃ m,m=PS.length:=⟨_,rfl⟩
 have HM:=hid hm
 rw[←hm] at hpos hlen HFg
 have HA0:Hid (Od.arcs PS=(Od.arcs (PS.drop 0)).map ([] ++ ·)):=hid (by simp)
 have HAm:Hid (∀ ns,Od.arcs PS=(Od.arcs (PS.drop m)).map (ns ++ ·)→Od.arcs PS=some ns):=hid (fun ns h=>by
  rw[h,List.drop_eq_nil_of_le (by omega)]
  simp[Od.arcs])
 have HSp:=hid hsp
 have F0:Hid (FrI w (w.alloc (.cells #[] 3)) (.slice (some ⟨w.heap.size,0,none⟩) 0 0) []):=hid ⟨World.grownBy_alloc _ _ _,ownsRow_lit (alloc_at w _) (Nat.le_refl _) (by simp)⟩
 generalize hPa:Od.parse (strL s)=Pa at *
 clear hPS hsp hplt hm hPa hs
 go_enter Tryz.func129,Tryz.ntmps129
 go_wp2_with (go_at_call 164;refine (HSp.out _).mono ?_;rintro e w2 ⟨v2,rfl,hF2⟩;obtain ⟨a2,g2,c2,rfl,q1,q2,q3,q4⟩:=ownsRow_form hF2.own;rw[←HM.out] at q1 q3;obtain ⟨rfl,q5,q6⟩:=q3 hpos;have hO2:=hF2.own;rw[←HM.out] at hO2;have HO2:=hid hO2;have HF1:=hid (F0.out.more hF2.grown);rw[←HM.out];clear hF2 q3 q4 hO2)
 go_loopw [4,13] (fun out i wr=>∃ (k:Nat) (ns:List Int),k≤m∧ns.length=k∧i=.int .i64 k∧FrI w wr out ns∧wr.ownsRow (w.alloc (.cells #[] 3)).heap.size 9 1 (.slice (some ⟨g2,0,none⟩) m c2) m (cellsS PS)∧Od.arcs PS=(Od.arcs (PS.drop k)).map (ns ++ ·)) (fun _ i _=>m-(intOf i).toNat)
 case atStart=>exact ⟨0,[],by omega,rfl,rfl,HF1.out,HO2.out,HA0.out⟩
 case round =>
  obtain ⟨k,ns,hk,hnk,rfl,hF,hO,hA⟩:=hrel
  have HF:=hid hF
  have HO:=hid hO
  have HA:=hid hA
  clear hF hO hA
  by_cases hkm:k<m
  ·have hcell:wr.cell? ⟨g2,k,none⟩=some (.string (strOf (PS.getD k []))):=by
    obtain ⟨_,g',_,e,_,_,p3,p4⟩:=ownsRow_form HO.out
    cases e
    obtain ⟨e,_⟩:=p3 (by omega)
    cases e
    rw[p4 k hkm,cellsS_at PS k (by rw[←HM.out];exact hkm)]
   have hfg:=HFg.out k hkm
   have hst:=HStep.out ns k (by rw[←HM.out];exact hkm) HA.out
   have hsize:((strOf (PS.getD k [])).size:Int)=((PS.getD k []).length:Int):=by rw[strOf_size]
   generalize PS.getD k []=p at *
   by_cases hok:Wh.figs p=true∧p.length≤10
   ·obtain ⟨hf,h10⟩:=hok
    have hpt:Od.part p=some ((Wh.pval p:Nat):Int):=by rw[Od.part,if_pos ⟨hf,h10⟩]
    rw[hpt] at hst
    have HSt:Hid (Od.arcs PS=(Od.arcs (PS.drop (k+1))).map ((ns++[((Wh.pval p:Nat):Int)]) ++ ·)):=hid hst
    have hfo:figOut p=(((Wh.pval p:Nat):Int),true):=by rw[figOut,if_pos hf]
    rw[hfo] at hfg
    have HFp:=hid hfg
    generalize Wh.pval p=q at *
    generalize strOf p=T at *
    generalize p.length=pl at *
    clear hfg hst hfo hpt hf
    go_wp2_with (first
     |(go_at_call 165;refine (HFp.out _).mono ?_;rintro e w3 ⟨rfl,hg3⟩;have HF3:=hid (HF.out.more hg3);have HO3:=hid (HO.out.kept hg3 (Classical.em _));clear hg3)
     |(at_builtin;refine wpList_app1 (by rfl) (.tmp 29) (.tmp 31) 41 (by rfl) w.heap.size 3 (.int .i64 0) 8 Tryz.underlying41 (by kernel_rfl) rfl (by decide) _ ns.length (cellsI ns) (by rfl) (HF3.out.own.alloc _) ⟨_,0,none⟩ (.int .i64 (q:Int)) (by rfl) (cell_blk (alloc_at _ _) 0 rfl) rfl (by omega) (by have:=HF3.out.le;rw[alloc_size];omega) ?_;intro v' w4 ho4 hg4;have hb4:=appI_both (HF3.out.alloc _) (HO3.out.alloc _) ho4 hg4;have F4:=hid hb4.1;have HO4:=hid hb4.2;clear hb4 ho4 hg4))
    go_roundw
    case rel=>exact ⟨k+1,ns++[(q:Int)],by omega,by rw[List.length_append,hnk];rfl,by go_num,F4.out,HO4.out,HSt.out⟩
    case measure=>simp[intOf];omega
   ·have hpt:Od.part p=none:=by rw[Od.part,if_neg hok]
    rw[hpt] at hst
    have HR:Hid (Pa=.error 4):=hid (by rw[HParse.out,show Od.arcs PS=none from hst])
    clear hst hpt
    by_cases hf:Wh.figs p=true
    ·have h10:10<p.length:=Nat.lt_of_not_le (fun h=>hok ⟨hf,h⟩)
     have hfo:figOut p=(((Wh.pval p:Nat):Int),true):=by rw[figOut,if_pos hf]
     rw[hfo] at hfg
     have HFp:=hid hfg
     generalize Wh.pval p=q at *
     generalize strOf p=T at *
     generalize p.length=pl at *
     clear hfg hfo hf hok
     go_wp2_with (go_at_call 165;refine (HFp.out _).mono ?_;rintro e w3 ⟨rfl,hg3⟩;have HF3:=hid (HF.out.more hg3);clear hg3)
     go_ret2
     rw[HR.out]
     exact ⟨rfl,HF3.out.grown⟩
    ·have hfo:figOut p=(0,false):=by rw[figOut,if_neg hf]
     rw[hfo] at hfg
     have HFp:=hid hfg
     generalize strOf p=T at *
     generalize p.length=pl at *
     clear hfg hfo hf hok
     go_wp2_with (go_at_call 165;refine (HFp.out _).mono ?_;rintro e w3 ⟨rfl,hg3⟩;have HF3:=hid (HF.out.more hg3);clear hg3)
     go_ret2
     rw[HR.out]
     exact ⟨rfl,HF3.out.grown⟩
  ·obtain rfl:k=m:=by omega
   have harc:=HAm.out ns HA.out
   have HRt:=hid (refRight_any _ ns wr HF.out.ints)
   by_cases hr:Od.right ns=true
   ·have HR:Hid (Pa=.ok ns):=hid (by rw[HParse.out,harc];simp[hr])
    rw[hr] at HRt
    clear harc hr
    go_wp2_with (go_at_call 166;refine HRt.out.mono ?_;rintro e w3 ⟨rfl,hw3⟩;rw[hw3];clear hw3)
    go_ret2
    rw[HR.out]
    exact ⟨_,rfl,HF.out⟩
   ·have HR:Hid (Pa=.error 1):=hid (by rw[HParse.out,harc];simp[hr])
    rw[Bool.not_eq_true] at hr
    rw[hr] at HRt
    clear harc hr
    go_wp2_with (go_at_call 166;refine HRt.out.mono ?_;rintro e w3 ⟨rfl,hw3⟩;rw[hw3];clear hw3)
    go_ret2
    rw[HR.out]
    exact ⟨rfl,HF.out.grown⟩
end Go.Proofs.YtjjbkpjjmbfdhaaGreatDoor
