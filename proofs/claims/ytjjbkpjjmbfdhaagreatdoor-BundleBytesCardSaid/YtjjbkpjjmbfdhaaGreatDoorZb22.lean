import Derived.Test.YtjjbkpjjmbfdhaaGreatDoorZb03
import Derived.Test.YtjjbkpjjmbfdhaaGreatDoorZb19
set_option linter.unusedVariables false
set_option linter.unusedSimpArgs false
namespace Go.Proofs.YtjjbkpjjmbfdhaaGreatDoor
open Go.ChangeShapes Go.WideShapes Go.ChangeAt Go.RowKit
section
variable {P:Program} {W:World} {ti tp te ts:TypeId} {ms:Array (String×TypeId)} {nm:String} {f:Field}
def IsSent (P:Program) (ti:TypeId) (nm:String) (x:String×DataW Unit):Prop :=
 (∃ text,x.2=.iface nm (.ptr (.agg [.lit (.string text)])))∧∃ g,P.globalNamed x.1=some g∧(P.globals[g]?).map (·.type)=some ti
theorem sents (hi:P.underlying ti=some (.interface ms)) (hrow:∀ u,P.typeName? 3 u=some nm→u=tp)
  (hp:P.underlying tp=some (.pointer te)) (he:P.underlying te=some (.struct #[f])) (hft:f.type=ts) (hfo:f.offset=0) (hs:P.underlying ts=some .string) (hc:P.cellsOf te=1) (hcs:P.cellsOf ts=1) :
  ∀ (L:List (String×DataW Unit)) (ps:List MemPlace),DataW.LaidVars P W L ps→ps.Nodup →
   (∀ b off,MemPlace.cell b off∈ps→(∃ c t,W.heap[b]?=some (.cells c t (0,0)))∧∀ u v,W.cell? ⟨b,off,none⟩=some (.iface u v)→Value.okWide P W .any 0 u v) →
   ∃ A:Nat→Addr,(∀ i x,L[i]?=some x→IsSent P ti nm x→W.var? P x.1=some #[.iface tp (.pointer (some (A i)))]∧MemPlace.cell (A i).block (A i).off∈ps∧∃ c t,W.heap[(A i).block]?=some (.cells c t (0,0))) ∧
    ∀ i j x y,L[i]?=some x→L[j]?=some y→IsSent P ti nm x→IsSent P ti nm y→i≠j→A i≠A j
 |[],ps,_,_,_=>⟨fun _=>⟨0,0,none⟩,fun i x h=>(by simp at h),fun i j x y h=>(by simp at h)⟩
 |x :: L,ps,hV,hnd,hrows=>by
  obtain ⟨n,d⟩:=x
  obtain ⟨g0,t0,cs0,f0,p0,q0,hg0,ht0,hv0,hd0,hrest,rfl⟩:=hV
  have hq:∀ y∈q0,y∈MemPlace.row ⟨g0,0,none⟩ cs0.size++p0++q0:=fun y hy=>List.mem_append_right _ hy
  have hnq:=List.nodup_append.1 hnd
  obtain ⟨A,h1,h2⟩:=sents hi hrow hp he hft hfo hs hc hcs L q0 hrest hnq.2.1 (fun b off hb=>hrows b off (hq _ hb))
  have head:∃ a0,IsSent P ti nm (n,d)→W.var? P n=some #[.iface tp (.pointer (some a0))]∧MemPlace.cell a0.block a0.off∈MemPlace.row ⟨g0,0,none⟩ cs0.size++p0:=by
   by_cases hse:IsSent P ti nm (n,d)
   ·obtain ⟨⟨text,hd⟩,g,hg,ht⟩:=hse
    simp only at hd hg ht
    subst hd
    obtain rfl:=Option.some.inj (hg.symm.trans hg0)
    obtain rfl:=Option.some.inj (ht.symm.trans ht0)
    obtain ⟨l0⟩:=cs0
    have hsz:∀ u v,l0=[.iface u v]→Value.okWide P W .any 0 u v:=fun u v e=>by
     subst e
     exact (hrows g 0 (by simp[MemPlace.row])).2 u v (by simpa using World.var?_cell hg hv0 0)
    obtain ⟨a0,s0,rfl,hc0,hs0,hz0,rfl⟩:=errorString_of_trod hi hrow hp he hft hfo hs hc hcs hd0 hsz
    exact ⟨a0,fun _=>⟨hv0,List.mem_append_right _ (by simp[MemPlace.row])⟩⟩
   ·exact ⟨⟨0,0,none⟩,fun h=>absurd h hse⟩
  obtain ⟨a0,ha0⟩:=head
  refine ⟨fun i=>match i with|0=>a0|i+1=>A i,fun i x hx hse=>?_,fun i j x y hx hy hsx hsy hij=>?_⟩
  ·match i,hx with
   |0,hx =>
    simp at hx
    subst hx
    obtain ⟨k1,k2⟩:=ha0 hse
    exact ⟨k1,List.mem_append_left _ k2,(hrows _ _ (List.mem_append_left _ k2)).1⟩
   |i+1,hx =>
    obtain ⟨k1,k2,k3⟩:=h1 i x (by simpa using hx) hse
    exact ⟨k1,hq _ k2,k3⟩
  ·have far:∀ k z,L[k]?=some z→IsSent P ti nm z→IsSent P ti nm (n,d)→a0≠A k:=fun k z hz hsz hs0 he=>by
    have k1:=(ha0 hs0).2
    have k2:=(h1 k z hz hsz).2.1
    rw[←he] at k2
    exact hnq.2.2 _ k1 _ k2 rfl
   match i,j,hx,hy,hij with
   |0,0,_,_,hij=>exact absurd rfl hij
   |0,j+1,hx,hy,_ =>
    simp at hx
    subst hx
    exact far j y (by simpa using hy) hsy hsx
   |i+1,0,hx,hy,_ =>
    simp at hy
    subst hy
    exact fun e=>far i x (by simpa using hx) hsx hsy e.symm
   |i+1,j+1,hx,hy,hij=>exact h2 i j x y (by simpa using hx) (by simpa using hy) hsx hsy (fun e=>hij (by rw[e]))
end
abbrev laids28:List (String×DataW Unit):=[("bulla/api.ErrRange",Rows.laid_bulla_api_ErrRange),("bulla/api.ErrShort",Rows.laid_bulla_api_ErrShort),("bulla/api.ErrLong",Rows.laid_bulla_api_ErrLong),("bulla/api.ErrForm",Rows.laid_bulla_api_ErrForm),("bulla/api.ErrTag",Rows.laid_bulla_api_ErrTag),("bulla/api.ErrDepth",Rows.laid_bulla_api_ErrDepth),("bulla/api.ErrOrder",Rows.laid_bulla_api_ErrOrder),("bulla/api.ErrText",Rows.laid_bulla_api_ErrText),("bulla/api.ErrName",Rows.laid_bulla_api_ErrName),("bulla/api.ErrKey",Rows.laid_bulla_api_ErrKey),("bulla/api.ErrProof",Rows.laid_bulla_api_ErrProof),("bulla/api.ErrSign",Rows.laid_bulla_api_ErrSign),("bulla/api.ErrExpired",Rows.laid_bulla_api_ErrExpired),("bulla/api.ErrEarly",Rows.laid_bulla_api_ErrEarly),("bulla/api.ErrUsage",Rows.laid_bulla_api_ErrUsage),("bulla/api.ErrIssuer",Rows.laid_bulla_api_ErrIssuer),("bulla/api.ErrRevoked",Rows.laid_bulla_api_ErrRevoked),("bulla/api.ErrNone",Rows.laid_bulla_api_ErrNone),("bulla/api.ErrExists",Rows.laid_bulla_api_ErrExists),("bulla/api.ErrStale",Rows.laid_bulla_api_ErrStale),("bulla/api.ErrQuota",Rows.laid_bulla_api_ErrQuota),("bulla/api.ErrDenied",Rows.laid_bulla_api_ErrDenied),("bulla/api.ErrAuth",Rows.laid_bulla_api_ErrAuth),("bulla/api.ErrState",Rows.laid_bulla_api_ErrState),("bulla/api.ErrDown",Rows.laid_bulla_api_ErrDown),("bulla/api.ErrFull",Rows.laid_bulla_api_ErrFull),("bulla/api.ErrCorrupt",Rows.laid_bulla_api_ErrCorrupt),("bulla/api.ErrBusy",Rows.laid_bulla_api_ErrBusy)]
theorem gE0:Tryz.prog.globalNamed "bulla/api.ErrRange"=some 1:=by kernel_rfl
theorem tE0:(Tryz.prog.globals[1]?).map (·.type)=some 29:=by kernel_rfl
theorem gE1:Tryz.prog.globalNamed "bulla/api.ErrShort"=some 2:=by kernel_rfl
theorem tE1:(Tryz.prog.globals[2]?).map (·.type)=some 29:=by kernel_rfl
theorem gE2:Tryz.prog.globalNamed "bulla/api.ErrLong"=some 3:=by kernel_rfl
theorem tE2:(Tryz.prog.globals[3]?).map (·.type)=some 29:=by kernel_rfl
theorem gE3:Tryz.prog.globalNamed "bulla/api.ErrForm"=some 0:=by kernel_rfl
theorem tE3:(Tryz.prog.globals[0]?).map (·.type)=some 29:=by kernel_rfl
theorem gE4:Tryz.prog.globalNamed "bulla/api.ErrTag"=some 4:=by kernel_rfl
theorem tE4:(Tryz.prog.globals[4]?).map (·.type)=some 29:=by kernel_rfl
theorem gE5:Tryz.prog.globalNamed "bulla/api.ErrDepth"=some 5:=by kernel_rfl
theorem tE5:(Tryz.prog.globals[5]?).map (·.type)=some 29:=by kernel_rfl
theorem gE6:Tryz.prog.globalNamed "bulla/api.ErrOrder"=some 6:=by kernel_rfl
theorem tE6:(Tryz.prog.globals[6]?).map (·.type)=some 29:=by kernel_rfl
theorem gE7:Tryz.prog.globalNamed "bulla/api.ErrText"=some 7:=by kernel_rfl
theorem tE7:(Tryz.prog.globals[7]?).map (·.type)=some 29:=by kernel_rfl
theorem gE8:Tryz.prog.globalNamed "bulla/api.ErrName"=some 8:=by kernel_rfl
theorem tE8:(Tryz.prog.globals[8]?).map (·.type)=some 29:=by kernel_rfl
theorem gE9:Tryz.prog.globalNamed "bulla/api.ErrKey"=some 9:=by kernel_rfl
theorem tE9:(Tryz.prog.globals[9]?).map (·.type)=some 29:=by kernel_rfl
theorem gE10:Tryz.prog.globalNamed "bulla/api.ErrProof"=some 10:=by kernel_rfl
theorem tE10:(Tryz.prog.globals[10]?).map (·.type)=some 29:=by kernel_rfl
theorem gE11:Tryz.prog.globalNamed "bulla/api.ErrSign"=some 11:=by kernel_rfl
theorem tE11:(Tryz.prog.globals[11]?).map (·.type)=some 29:=by kernel_rfl
theorem gE12:Tryz.prog.globalNamed "bulla/api.ErrExpired"=some 12:=by kernel_rfl
theorem tE12:(Tryz.prog.globals[12]?).map (·.type)=some 29:=by kernel_rfl
theorem gE13:Tryz.prog.globalNamed "bulla/api.ErrEarly"=some 13:=by kernel_rfl
theorem tE13:(Tryz.prog.globals[13]?).map (·.type)=some 29:=by kernel_rfl
theorem gE14:Tryz.prog.globalNamed "bulla/api.ErrUsage"=some 14:=by kernel_rfl
theorem tE14:(Tryz.prog.globals[14]?).map (·.type)=some 29:=by kernel_rfl
theorem gE15:Tryz.prog.globalNamed "bulla/api.ErrIssuer"=some 15:=by kernel_rfl
theorem tE15:(Tryz.prog.globals[15]?).map (·.type)=some 29:=by kernel_rfl
theorem gE16:Tryz.prog.globalNamed "bulla/api.ErrRevoked"=some 16:=by kernel_rfl
theorem tE16:(Tryz.prog.globals[16]?).map (·.type)=some 29:=by kernel_rfl
theorem gE17:Tryz.prog.globalNamed "bulla/api.ErrNone"=some 17:=by kernel_rfl
theorem tE17:(Tryz.prog.globals[17]?).map (·.type)=some 29:=by kernel_rfl
theorem gE18:Tryz.prog.globalNamed "bulla/api.ErrExists"=some 18:=by kernel_rfl
theorem tE18:(Tryz.prog.globals[18]?).map (·.type)=some 29:=by kernel_rfl
theorem gE19:Tryz.prog.globalNamed "bulla/api.ErrStale"=some 19:=by kernel_rfl
theorem tE19:(Tryz.prog.globals[19]?).map (·.type)=some 29:=by kernel_rfl
theorem gE20:Tryz.prog.globalNamed "bulla/api.ErrQuota"=some 20:=by kernel_rfl
theorem tE20:(Tryz.prog.globals[20]?).map (·.type)=some 29:=by kernel_rfl
theorem gE21:Tryz.prog.globalNamed "bulla/api.ErrDenied"=some 21:=by kernel_rfl
theorem tE21:(Tryz.prog.globals[21]?).map (·.type)=some 29:=by kernel_rfl
theorem gE22:Tryz.prog.globalNamed "bulla/api.ErrAuth"=some 22:=by kernel_rfl
theorem tE22:(Tryz.prog.globals[22]?).map (·.type)=some 29:=by kernel_rfl
theorem gE23:Tryz.prog.globalNamed "bulla/api.ErrState"=some 23:=by kernel_rfl
theorem tE23:(Tryz.prog.globals[23]?).map (·.type)=some 29:=by kernel_rfl
theorem gE24:Tryz.prog.globalNamed "bulla/api.ErrDown"=some 24:=by kernel_rfl
theorem tE24:(Tryz.prog.globals[24]?).map (·.type)=some 29:=by kernel_rfl
theorem gE25:Tryz.prog.globalNamed "bulla/api.ErrFull"=some 25:=by kernel_rfl
theorem tE25:(Tryz.prog.globals[25]?).map (·.type)=some 29:=by kernel_rfl
theorem gE26:Tryz.prog.globalNamed "bulla/api.ErrCorrupt"=some 26:=by kernel_rfl
theorem tE26:(Tryz.prog.globals[26]?).map (·.type)=some 29:=by kernel_rfl
theorem gE27:Tryz.prog.globalNamed "bulla/api.ErrBusy"=some 27:=by kernel_rfl
theorem tE27:(Tryz.prog.globals[27]?).map (·.type)=some 29:=by kernel_rfl
theorem sent28:∀ k x,laids28[k]?=some x→IsSent Tryz.prog 29 "*errors.errorString" x∧Tryz.prog.globalNamed x.1=some (errVars.getD k 0):=fun k x h=>by
 match k,h with
 |0,h=>obtain rfl:=Option.some.inj h;exact ⟨⟨⟨_,rfl⟩,_,gE0,tE0⟩,gE0⟩
 |1,h=>obtain rfl:=Option.some.inj h;exact ⟨⟨⟨_,rfl⟩,_,gE1,tE1⟩,gE1⟩
 |2,h=>obtain rfl:=Option.some.inj h;exact ⟨⟨⟨_,rfl⟩,_,gE2,tE2⟩,gE2⟩
 |3,h=>obtain rfl:=Option.some.inj h;exact ⟨⟨⟨_,rfl⟩,_,gE3,tE3⟩,gE3⟩
 |4,h=>obtain rfl:=Option.some.inj h;exact ⟨⟨⟨_,rfl⟩,_,gE4,tE4⟩,gE4⟩
 |5,h=>obtain rfl:=Option.some.inj h;exact ⟨⟨⟨_,rfl⟩,_,gE5,tE5⟩,gE5⟩
 |6,h=>obtain rfl:=Option.some.inj h;exact ⟨⟨⟨_,rfl⟩,_,gE6,tE6⟩,gE6⟩
 |7,h=>obtain rfl:=Option.some.inj h;exact ⟨⟨⟨_,rfl⟩,_,gE7,tE7⟩,gE7⟩
 |8,h=>obtain rfl:=Option.some.inj h;exact ⟨⟨⟨_,rfl⟩,_,gE8,tE8⟩,gE8⟩
 |9,h=>obtain rfl:=Option.some.inj h;exact ⟨⟨⟨_,rfl⟩,_,gE9,tE9⟩,gE9⟩
 |10,h=>obtain rfl:=Option.some.inj h;exact ⟨⟨⟨_,rfl⟩,_,gE10,tE10⟩,gE10⟩
 |11,h=>obtain rfl:=Option.some.inj h;exact ⟨⟨⟨_,rfl⟩,_,gE11,tE11⟩,gE11⟩
 |12,h=>obtain rfl:=Option.some.inj h;exact ⟨⟨⟨_,rfl⟩,_,gE12,tE12⟩,gE12⟩
 |13,h=>obtain rfl:=Option.some.inj h;exact ⟨⟨⟨_,rfl⟩,_,gE13,tE13⟩,gE13⟩
 |14,h=>obtain rfl:=Option.some.inj h;exact ⟨⟨⟨_,rfl⟩,_,gE14,tE14⟩,gE14⟩
 |15,h=>obtain rfl:=Option.some.inj h;exact ⟨⟨⟨_,rfl⟩,_,gE15,tE15⟩,gE15⟩
 |16,h=>obtain rfl:=Option.some.inj h;exact ⟨⟨⟨_,rfl⟩,_,gE16,tE16⟩,gE16⟩
 |17,h=>obtain rfl:=Option.some.inj h;exact ⟨⟨⟨_,rfl⟩,_,gE17,tE17⟩,gE17⟩
 |18,h=>obtain rfl:=Option.some.inj h;exact ⟨⟨⟨_,rfl⟩,_,gE18,tE18⟩,gE18⟩
 |19,h=>obtain rfl:=Option.some.inj h;exact ⟨⟨⟨_,rfl⟩,_,gE19,tE19⟩,gE19⟩
 |20,h=>obtain rfl:=Option.some.inj h;exact ⟨⟨⟨_,rfl⟩,_,gE20,tE20⟩,gE20⟩
 |21,h=>obtain rfl:=Option.some.inj h;exact ⟨⟨⟨_,rfl⟩,_,gE21,tE21⟩,gE21⟩
 |22,h=>obtain rfl:=Option.some.inj h;exact ⟨⟨⟨_,rfl⟩,_,gE22,tE22⟩,gE22⟩
 |23,h=>obtain rfl:=Option.some.inj h;exact ⟨⟨⟨_,rfl⟩,_,gE23,tE23⟩,gE23⟩
 |24,h=>obtain rfl:=Option.some.inj h;exact ⟨⟨⟨_,rfl⟩,_,gE24,tE24⟩,gE24⟩
 |25,h=>obtain rfl:=Option.some.inj h;exact ⟨⟨⟨_,rfl⟩,_,gE25,tE25⟩,gE25⟩
 |26,h=>obtain rfl:=Option.some.inj h;exact ⟨⟨⟨_,rfl⟩,_,gE26,tE26⟩,gE26⟩
 |27,h=>obtain rfl:=Option.some.inj h;exact ⟨⟨⟨_,rfl⟩,_,gE27,tE27⟩,gE27⟩
 |n+28,h =>
  have:=(List.getElem?_eq_some_iff.1 h).1
  simp at this
  omega
theorem allErrs_of {W:World} {L:List (String×DataW Unit)} (h:laidMet Tryz.prog L W) (pos:List Nat) (hp:pos.map (fun i=>L[i]?)=laids28.map some) (hpn:pos.Nodup):∃ A,AllErrs W A:=by
 obtain ⟨ps,hV,hnd,hrows⟩:=h
 obtain ⟨A,h1,h2⟩:=sents (P:=Tryz.prog) (W:=W) Tryz.underlying29 rowEs Tryz.underlying244 Tryz.underlying268 rfl rfl Tryz.underlying9 cEs cStr L ps hV hnd hrows
 have hlen:pos.length=28:=by have:=congrArg List.length hp;simpa using this
 have each:∀ k,k<28→∃ x,L[pos.getD k 0]?=some x∧IsSent Tryz.prog 29 "*errors.errorString" x∧Tryz.prog.globalNamed x.1=some (errVars.getD k 0):=fun k hk=>by
  obtain ⟨x,hx⟩:∃ x,laids28[k]?=some x:=⟨_,List.getElem?_eq_getElem (show k<laids28.length from hk)⟩
  have e:(pos.map (fun i=>L[i]?))[k]?=(laids28.map some)[k]?:=by rw[hp]
  rw[List.getElem?_map,List.getElem?_map,hx,List.getElem?_eq_getElem (show k<pos.length by omega)] at e
  simp only[Option.map_some,Option.some.injEq] at e
  refine ⟨x,?_,(sent28 k x hx).1,(sent28 k x hx).2⟩
  rw[List.getD_eq_getElem?_getD,List.getElem?_eq_getElem (show k<pos.length by omega)]
  exact e
 refine ⟨fun k=>A (pos.getD k 0),⟨fun k hk=>?_,fun k hk=>?_,fun k hk=>?_,fun i j hi hj hne he=>?_⟩⟩
 ·obtain ⟨x,hx,hs,hg⟩:=each k hk
  exact World.var?_cell hg (h1 _ _ hx hs).1 0
 ·obtain ⟨x,hx,hs,hg⟩:=each k hk
  exact var_lt hg (h1 _ _ hx hs).1
 ·obtain ⟨x,hx,hs,hg⟩:=each k hk
  exact (h1 _ _ hx hs).2.2
 ·obtain ⟨x,hx,hs,_⟩:=each i hi
  obtain ⟨y,hy,hs2,_⟩:=each j hj
  refine h2 _ _ x y hx hy hs hs2 (fun e=>hne ?_) he
  rw[List.getD_eq_getElem?_getD,List.getD_eq_getElem?_getD,List.getElem?_eq_getElem (show i<pos.length by omega),List.getElem?_eq_getElem (show j<pos.length by omega)] at e
  exact (List.getElem_inj hpn).1 e
end Go.Proofs.YtjjbkpjjmbfdhaaGreatDoor
