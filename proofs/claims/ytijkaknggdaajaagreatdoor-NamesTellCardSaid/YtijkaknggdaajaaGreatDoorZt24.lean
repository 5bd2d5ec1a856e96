import Derived.Test.YtijkaknggdaajaaGreatDoorZt18
import Derived.Test.YtijkaknggdaajaaGreatDoorZt23
set_option linter.unusedVariables false
set_option linter.unusedSimpArgs false
set_option maxRecDepth 100000
set_option maxHeartbeats 1000000
namespace Go.Proofs.YtijkaknggdaajaaGreatDoor
open Go.RowKit
def isPr (l:List Na.Pr) (v:Value) (w:World):Prop:=Prts w v l
theorem stays_isPr (l:List Na.Pr):Stays (isPr l):=fun v w w' hg h=>Prts.grown h hg
noncomputable def nt_region8C:Code:=regionIn Tryz.f3.body 8
theorem nt_region8 (a:Act) (b1:Nat) (q:Bool) (DC:Array Value) (W w:World) (Q:Exit→Act→World→Prop) (hsz:a.tmps.size=141)
  (h1:a.eval (.tmp 1)=.pointer (some ⟨b1,0,none⟩))
  (hR1:∀ w,W.grownBy w none→Calls Tryz.prog 11 #[.agg DC] w fun e w'=>∃ v,e=.returned v∧w.grownBy w' none∧isV (.bool q) v w')
  (hR2:∀ w,W.grownBy w none→Calls Tryz.prog 12 #[.agg DC] w fun e w'=>∃ v,e=.returned v∧w.grownBy w' none∧isV (.bool q) v w')
  (h1r:∀ w,W.grownBy w none→w.heap[b1]?=some (.cells DC 23 (0,0)))
  (hI1:(Tryz.prog.info? 23).map (·.size)=some DC.size)
  (hw:W.grownBy { w with drawn:=w.drawn+1 } none)
  (hQ:∀ us w',W.grownBy w' none→Q .normal ((fill a [34,35,36,37] us).put (some 38) (.bool false)) w'):nt_region8C.wp Tryz.prog Q a w:=by
 have hst:StaysAll [isV (.agg DC),isV (.bool q),isV (.agg DC),isV (.bool q)]:=⟨stays_V _,stays_V _,stays_V _,stays_V _,trivial⟩
 conv=>arg 2;whnf
 refine wp_region_flow 4 [34,35,36,37] (fun w'=>W.grownBy w' none) (fun w w'=>w.grownBy w' none) (flF [isV (.agg DC),isV (.bool q),isV (.agg DC),isV (.bool q)]) (by kernel_rfl) (by kernel_rfl) (fun _ _ h k=>grown_trans k h) (fun j x w w' hg h=>flF_stays hst j x w w' hg h) hw ?_ ?_
 ·refine ⟨?_,?_,?_,?_,trivial⟩
  ·exact flow_step (fun us w hC hd=>wants_free rfl) (fun us w hC hd=>⟨_,w,load_val rfl ((fill_old (by rfl)).trans h1) (h1r w hC) Tryz.underlying23 rfl hI1,grown_refl _ _,rfl⟩)
  ·refine flow_call 11 (fun us=>#[us 34]) (fun us w hC hd=>wants_free rfl) (fun us w=>by rw[call_enter rfl (fun _ _=>by simp[go_sem]),List.map_toArray,List.map_cons,List.map_nil,fill_tmp (by rfl) (by rw[hsz];decide)]) (fun us w hC' hd=>?_)
   rw[show us 34=.agg DC from hd 0 (by decide)]
   exact hR1 w hC'
  ·exact flow_step (fun us w hC hd=>wants_free rfl) (fun us w hC hd=>⟨_,w,load_val rfl ((fill_old (by rfl)).trans h1) (h1r w hC) Tryz.underlying23 rfl hI1,grown_refl _ _,rfl⟩)
  ·refine flow_call 12 (fun us=>#[us 36]) (fun us w hC hd=>wants_free rfl) (fun us w=>by rw[call_enter rfl (fun _ _=>by simp[go_sem]),List.map_toArray,List.map_cons,List.map_nil,fill_tmp (by rfl) (by rw[hsz];decide)]) (fun us w hC' hd=>?_)
   rw[show us 36=.agg DC from hd 2 (by decide)]
   exact hR2 w hC'
 ·intro us w' hC' hd
  exact wpList_last rfl (neqbool_val rfl ((fill_tmp (by rfl) (by rw[hsz];decide)).trans (hd 1 (by decide))) ((fill_tmp (by rfl) (by rw[hsz];decide)).trans (hd 3 (by decide)))) (hQ us w' hC')
noncomputable def nt_region15C:Code:=regionIn Tryz.f3.body 15
theorem nt_region15 (a:Act) (b1 b9 b11 b13 pn pc vn vc:Nat) (pa va:Option Addr) (T S:ByteArray) (B:List Nat) (l:List Na.Pr) (DC:Array Value) (W w:World) (Q:Exit→Act→World→Prop) (hsz:a.tmps.size=141)
  (h4:a.eval (.tmp 4)=.nilIface)
  (h6:a.eval (.tmp 6)=.nilIface)
  (h8:a.eval (.tmp 8)=.nilIface)
  (h10:a.eval (.tmp 10)=.nilIface)
  (h12:a.eval (.tmp 12)=.nilIface)
  (h14:a.eval (.tmp 14)=.nilIface)
  (h1:a.eval (.tmp 1)=.pointer (some ⟨b1,0,none⟩))
  (h9:a.eval (.tmp 9)=.pointer (some ⟨b9,0,none⟩))
  (h11:a.eval (.tmp 11)=.pointer (some ⟨b11,0,none⟩))
  (h13:a.eval (.tmp 13)=.pointer (some ⟨b13,0,none⟩))
  (h3:a.eval (.tmp 3)=.slice pa pn pc)
  (h5:a.eval (.tmp 5)=.string T)
  (h7:a.eval (.tmp 7)=.slice va vn vc)
  (hP:∀ w,W.grownBy w none→Calls Tryz.prog 18 #[.agg DC] w fun e w'=>∃ v,e=.returned v∧w.grownBy w' none∧isPr l v w')
  (hS:∀ w u,W.grownBy w none→isPr l u w→Calls Tryz.prog 17 #[.slice pa pn pc,u] w fun e w'=>∃ v,e=.returned v∧w.grownBy w' none∧isV (.bool true) v w')
  (hT:∀ w,W.grownBy w none→Calls Tryz.prog 19 #[.agg DC] w fun e w'=>∃ v,e=.returned v∧w.grownBy w' none∧isV (.string T) v w')
  (hX:∀ w,W.grownBy w none→Calls Tryz.prog 20 #[.agg DC] w fun e w'=>∃ v,e=.returned v∧w.grownBy w' none∧isB B v w')
  (hSa:∀ w,W.grownBy w none→(convert 33 9 (.slice va vn vc)).run Tryz.prog w=.ok (.string S) w)
  (hSu:∀ w x,Bytes w x B→(convert 33 9 x).run Tryz.prog w=.ok (.string S) w)
  (h1r:∀ w,W.grownBy w none→w.heap[b1]?=some (.cells DC 23 (0,0)))
  (h9r:∀ w,W.grownBy w none→w.heap[b9]?=some (.cells DC 23 (0,0)))
  (h11r:∀ w,W.grownBy w none→w.heap[b11]?=some (.cells DC 23 (0,0)))
  (h13r:∀ w,W.grownBy w none→w.heap[b13]?=some (.cells DC 23 (0,0)))
  (hI1:(Tryz.prog.info? 23).map (·.size)=some DC.size)
  (hEq:∀ x y w,(do eqGuard .eql 23 x y (.agg DC) (.agg DC);binOp .eql 23 (.agg DC) (.agg DC):Sem Value).run Tryz.prog w=.ok (.bool true) w)
  (hw:W.grownBy { w with drawn:=w.drawn+1 } none)
  (hQ:∀ us w',W.grownBy w' none→Q .normal ((fill a [84,85,86,87,88,89,90,91,92,93,94,95,96,97,98,99,100,101,102,103,104,105,106,107,108,109,110,111,112,113,114,115,116,117,118,119,120,121,122,123,124,125,126,127,128,129,130,131,132,133,134,135,136,137,138,139,140] us).put (some 2) (.bool true)) w'):nt_region15C.wp Tryz.prog Q a w:=by
 have hst:StaysAll [isV (.nilIface),isV (.bool true),isV (.bool true),isV (.nilIface),isV (.bool true),isV (.bool true),isV (.bool true),isV (.nilIface),isV (.bool true),isV (.bool true),isV (.bool true),isV (.nilIface),isV (.bool true),isV (.bool true),isV (.bool true),isV (.nilIface),isV (.bool true),isV (.bool true),isV (.bool true),isV (.nilIface),isV (.bool true),isV (.bool true),isV (.bool true),isV (.agg DC),isV (.agg DC),isV (.bool true),isV (.bool true),isV (.bool true),isV (.agg DC),isV (.agg DC),isV (.bool true),isV (.bool true),isV (.bool true),isV (.agg DC),isV (.agg DC),isV (.bool true),isV (.bool true),isV (.bool true),isV (.slice pa pn pc),isV (.agg DC),isPr l,isV (.bool true),isV (.bool true),isV (.bool true),isV (.string T),isV (.agg DC),isV (.string T),isV (.bool true),isV (.bool true),isV (.bool true),isV (.slice va vn vc),isV (.string S),isV (.agg DC),isB B,isV (.string S),isV (.bool true),isV (.bool true)]:=⟨stays_V _,stays_V _,stays_V _,stays_V _,stays_V _,stays_V _,stays_V _,stays_V _,stays_V _,stays_V _,stays_V _,stays_V _,stays_V _,stays_V _,stays_V _,stays_V _,stays_V _,stays_V _,stays_V _,stays_V _,stays_V _,stays_V _,stays_V _,stays_V _,stays_V _,stays_V _,stays_V _,stays_V _,stays_V _,stays_V _,stays_V _,stays_V _,stays_V _,stays_V _,stays_V _,stays_V _,stays_V _,stays_V _,stays_V _,stays_V _,stays_isPr _,stays_V _,stays_V _,stays_V _,stays_V _,stays_V _,stays_V _,stays_V _,stays_V _,stays_V _,stays_V _,stays_V _,stays_V _,stays_B _,stays_V _,stays_V _,stays_V _,trivial⟩
 conv=>arg 2;whnf
 refine wp_region_flow 57 [84,85,86,87,88,89,90,91,92,93,94,95,96,97,98,99,100,101,102,103,104,105,106,107,108,109,110,111,112,113,114,115,116,117,118,119,120,121,122,123,124,125,126,127,128,129,130,131,132,133,134,135,136,137,138,139,140] (fun w'=>W.grownBy w' none) (fun w w'=>w.grownBy w' none) (flF [isV (.nilIface),isV (.bool true),isV (.bool true),isV (.nilIface),isV (.bool true),isV (.bool true),isV (.bool true),isV (.nilIface),isV (.bool true),isV (.bool true),isV (.bool true),isV (.nilIface),isV (.bool true),isV (.bool true),isV (.bool true),isV (.nilIface),isV (.bool true),isV (.bool true),isV (.bool true),isV (.nilIface),isV (.bool true),isV (.bool true),isV (.bool true),isV (.agg DC),isV (.agg DC),isV (.bool true),isV (.bool true),isV (.bool true),isV (.agg DC),isV (.agg DC),isV (.bool true),isV (.bool true),isV (.bool true),isV (.agg DC),isV (.agg DC),isV (.bool true),isV (.bool true),isV (.bool true),isV (.slice pa pn pc),isV (.agg DC),isPr l,isV (.bool true),isV (.bool true),isV (.bool true),isV (.string T),isV (.agg DC),isV (.string T),isV (.bool true),isV (.bool true),isV (.bool true),isV (.slice va vn vc),isV (.string S),isV (.agg DC),isB B,isV (.string S),isV (.bool true),isV (.bool true)]) (by kernel_rfl) (by kernel_rfl) (fun _ _ h k=>grown_trans k h) (fun j x w w' hg h=>flF_stays hst j x w w' hg h) hw ?_ ?_
 ·refine ⟨?_,?_,?_,?_,?_,?_,?_,?_,?_,?_,?_,?_,?_,?_,?_,?_,?_,?_,?_,?_,?_,?_,?_,?_,?_,?_,?_,?_,?_,?_,?_,?_,?_,?_,?_,?_,?_,?_,?_,?_,?_,?_,?_,?_,?_,?_,?_,?_,?_,?_,?_,?_,?_,?_,?_,?_,?_,trivial⟩
  ·exact flow_step (fun us w hC hd=>wants_free rfl) (fun us w hC hd=>⟨_,w,move_val rfl ((fill_old (by rfl)).trans h4),grown_refl _ _,rfl⟩)
  ·exact flow_step (fun us w hC hd=>wants_free rfl) (fun us w hC hd=>⟨_,w,eqlnil_val rfl ((fill_tmp (by rfl) (by rw[hsz];decide)).trans (hd 0 (by decide))) (nilEq _),grown_refl _ _,rfl⟩)
  ·exact flow_step (fun us w hC hd=>wants_free rfl) (fun us w hC hd=>⟨_,w,move_val rfl ((fill_tmp (by rfl) (by rw[hsz];decide)).trans (hd 1 (by decide))),grown_refl _ _,rfl⟩)
  ·exact flow_step (fun us w hC hd=>wants_on (d:=86) (b:=true) rfl rfl (by rfl) (by rw[hsz];decide) (hd 2 (by decide))) (fun us w hC hd=>⟨_,w,move_val rfl ((fill_old (by rfl)).trans h6),grown_refl _ _,rfl⟩)
  ·exact flow_step (fun us w hC hd=>wants_on (d:=86) (b:=true) rfl rfl (by rfl) (by rw[hsz];decide) (hd 2 (by decide))) (fun us w hC hd=>⟨_,w,eqlnil_val rfl ((fill_tmp (by rfl) (by rw[hsz];decide)).trans (hd 3 (by decide))) (nilEq _),grown_refl _ _,rfl⟩)
  ·exact flow_step (fun us w hC hd=>wants_free rfl) (fun us w hC hd=>⟨_,w,pick_true rfl ((fill_tmp (by rfl) (by rw[hsz];decide)).trans (hd 2 (by decide))) ((fill_tmp (by rfl) (by rw[hsz];decide)).trans (hd 4 (by decide))),grown_refl _ _,rfl⟩)
  ·exact flow_step (fun us w hC hd=>wants_free rfl) (fun us w hC hd=>⟨_,w,move_val rfl ((fill_tmp (by rfl) (by rw[hsz];decide)).trans (hd 5 (by decide))),grown_refl _ _,rfl⟩)
  ·exact flow_step (fun us w hC hd=>wants_on (d:=90) (b:=true) rfl rfl (by rfl) (by rw[hsz];decide) (hd 6 (by decide))) (fun us w hC hd=>⟨_,w,move_val rfl ((fill_old (by rfl)).trans h8),grown_refl _ _,rfl⟩)
  ·exact flow_step (fun us w hC hd=>wants_on (d:=90) (b:=true) rfl rfl (by rfl) (by rw[hsz];decide) (hd 6 (by decide))) (fun us w hC hd=>⟨_,w,eqlnil_val rfl ((fill_tmp (by rfl) (by rw[hsz];decide)).trans (hd 7 (by decide))) (nilEq _),grown_refl _ _,rfl⟩)
  ·exact flow_step (fun us w hC hd=>wants_free rfl) (fun us w hC hd=>⟨_,w,pick_true rfl ((fill_tmp (by rfl) (by rw[hsz];decide)).trans (hd 6 (by decide))) ((fill_tmp (by rfl) (by rw[hsz];decide)).trans (hd 8 (by decide))),grown_refl _ _,rfl⟩)
  ·exact flow_step (fun us w hC hd=>wants_free rfl) (fun us w hC hd=>⟨_,w,move_val rfl ((fill_tmp (by rfl) (by rw[hsz];decide)).trans (hd 9 (by decide))),grown_refl _ _,rfl⟩)
  ·exact flow_step (fun us w hC hd=>wants_on (d:=94) (b:=true) rfl rfl (by rfl) (by rw[hsz];decide) (hd 10 (by decide))) (fun us w hC hd=>⟨_,w,move_val rfl ((fill_old (by rfl)).trans h10),grown_refl _ _,rfl⟩)
  ·exact flow_step (fun us w hC hd=>wants_on (d:=94) (b:=true) rfl rfl (by rfl) (by rw[hsz];decide) (hd 10 (by decide))) (fun us w hC hd=>⟨_,w,eqlnil_val rfl ((fill_tmp (by rfl) (by rw[hsz];decide)).trans (hd 11 (by decide))) (nilEq _),grown_refl _ _,rfl⟩)
  ·exact flow_step (fun us w hC hd=>wants_free rfl) (fun us w hC hd=>⟨_,w,pick_true rfl ((fill_tmp (by rfl) (by rw[hsz];decide)).trans (hd 10 (by decide))) ((fill_tmp (by rfl) (by rw[hsz];decide)).trans (hd 12 (by decide))),grown_refl _ _,rfl⟩)
  ·exact flow_step (fun us w hC hd=>wants_free rfl) (fun us w hC hd=>⟨_,w,move_val rfl ((fill_tmp (by rfl) (by rw[hsz];decide)).trans (hd 13 (by decide))),grown_refl _ _,rfl⟩)
  ·exact flow_step (fun us w hC hd=>wants_on (d:=98) (b:=true) rfl rfl (by rfl) (by rw[hsz];decide) (hd 14 (by decide))) (fun us w hC hd=>⟨_,w,move_val rfl ((fill_old (by rfl)).trans h12),grown_refl _ _,rfl⟩)
  ·exact flow_step (fun us w hC hd=>wants_on (d:=98) (b:=true) rfl rfl (by rfl) (by rw[hsz];decide) (hd 14 (by decide))) (fun us w hC hd=>⟨_,w,eqlnil_val rfl ((fill_tmp (by rfl) (by rw[hsz];decide)).trans (hd 15 (by decide))) (nilEq _),grown_refl _ _,rfl⟩)
  ·exact flow_step (fun us w hC hd=>wants_free rfl) (fun us w hC hd=>⟨_,w,pick_true rfl ((fill_tmp (by rfl) (by rw[hsz];decide)).trans (hd 14 (by decide))) ((fill_tmp (by rfl) (by rw[hsz];decide)).trans (hd 16 (by decide))),grown_refl _ _,rfl⟩)
  ·exact flow_step (fun us w hC hd=>wants_free rfl) (fun us w hC hd=>⟨_,w,move_val rfl ((fill_tmp (by rfl) (by rw[hsz];decide)).trans (hd 17 (by decide))),grown_refl _ _,rfl⟩)
  ·exact flow_step (fun us w hC hd=>wants_on (d:=102) (b:=true) rfl rfl (by rfl) (by rw[hsz];decide) (hd 18 (by decide))) (fun us w hC hd=>⟨_,w,move_val rfl ((fill_old (by rfl)).trans h14),grown_refl _ _,rfl⟩)
  ·exact flow_step (fun us w hC hd=>wants_on (d:=102) (b:=true) rfl rfl (by rfl) (by rw[hsz];decide) (hd 18 (by decide))) (fun us w hC hd=>⟨_,w,eqlnil_val rfl ((fill_tmp (by rfl) (by rw[hsz];decide)).trans (hd 19 (by decide))) (nilEq _),grown_refl _ _,rfl⟩)
  ·exact flow_step (fun us w hC hd=>wants_free rfl) (fun us w hC hd=>⟨_,w,pick_true rfl ((fill_tmp (by rfl) (by rw[hsz];decide)).trans (hd 18 (by decide))) ((fill_tmp (by rfl) (by rw[hsz];decide)).trans (hd 20 (by decide))),grown_refl _ _,rfl⟩)
  ·exact flow_step (fun us w hC hd=>wants_free rfl) (fun us w hC hd=>⟨_,w,move_val rfl ((fill_tmp (by rfl) (by rw[hsz];decide)).trans (hd 21 (by decide))),grown_refl _ _,rfl⟩)
  ·exact flow_step (fun us w hC hd=>wants_on (d:=106) (b:=true) rfl rfl (by rfl) (by rw[hsz];decide) (hd 22 (by decide))) (fun us w hC hd=>⟨_,w,load_val rfl ((fill_old (by rfl)).trans h9) (h9r w hC) Tryz.underlying23 rfl hI1,grown_refl _ _,rfl⟩)
  ·exact flow_step (fun us w hC hd=>wants_on (d:=106) (b:=true) rfl rfl (by rfl) (by rw[hsz];decide) (hd 22 (by decide))) (fun us w hC hd=>⟨_,w,load_val rfl ((fill_old (by rfl)).trans h1) (h1r w hC) Tryz.underlying23 rfl hI1,grown_refl _ _,rfl⟩)
  ·exact flow_step (fun us w hC hd=>wants_on (d:=106) (b:=true) rfl rfl (by rfl) (by rw[hsz];decide) (hd 22 (by decide))) (fun us w hC hd=>⟨_,w,eqlAgg_val rfl ((fill_tmp (by rfl) (by rw[hsz];decide)).trans (hd 23 (by decide))) ((fill_tmp (by rfl) (by rw[hsz];decide)).trans (hd 24 (by decide))) (hEq _ _),grown_refl _ _,rfl⟩)
  ·exact flow_step (fun us w hC hd=>wants_free rfl) (fun us w hC hd=>⟨_,w,pick_true rfl ((fill_tmp (by rfl) (by rw[hsz];decide)).trans (hd 22 (by decide))) ((fill_tmp (by rfl) (by rw[hsz];decide)).trans (hd 25 (by decide))),grown_refl _ _,rfl⟩)
  ·exact flow_step (fun us w hC hd=>wants_free rfl) (fun us w hC hd=>⟨_,w,move_val rfl ((fill_tmp (by rfl) (by rw[hsz];decide)).trans (hd 26 (by decide))),grown_refl _ _,rfl⟩)
  ·exact flow_step (fun us w hC hd=>wants_on (d:=111) (b:=true) rfl rfl (by rfl) (by rw[hsz];decide) (hd 27 (by decide))) (fun us w hC hd=>⟨_,w,load_val rfl ((fill_old (by rfl)).trans h11) (h11r w hC) Tryz.underlying23 rfl hI1,grown_refl _ _,rfl⟩)
  ·exact flow_step (fun us w hC hd=>wants_on (d:=111) (b:=true) rfl rfl (by rfl) (by rw[hsz];decide) (hd 27 (by decide))) (fun us w hC hd=>⟨_,w,load_val rfl ((fill_old (by rfl)).trans h1) (h1r w hC) Tryz.underlying23 rfl hI1,grown_refl _ _,rfl⟩)
  ·exact flow_step (fun us w hC hd=>wants_on (d:=111) (b:=true) rfl rfl (by rfl) (by rw[hsz];decide) (hd 27 (by decide))) (fun us w hC hd=>⟨_,w,eqlAgg_val rfl ((fill_tmp (by rfl) (by rw[hsz];decide)).trans (hd 28 (by decide))) ((fill_tmp (by rfl) (by rw[hsz];decide)).trans (hd 29 (by decide))) (hEq _ _),grown_refl _ _,rfl⟩)
  ·exact flow_step (fun us w hC hd=>wants_free rfl) (fun us w hC hd=>⟨_,w,pick_true rfl ((fill_tmp (by rfl) (by rw[hsz];decide)).trans (hd 27 (by decide))) ((fill_tmp (by rfl) (by rw[hsz];decide)).trans (hd 30 (by decide))),grown_refl _ _,rfl⟩)
  ·exact flow_step (fun us w hC hd=>wants_free rfl) (fun us w hC hd=>⟨_,w,move_val rfl ((fill_tmp (by rfl) (by rw[hsz];decide)).trans (hd 31 (by decide))),grown_refl _ _,rfl⟩)
  ·exact flow_step (fun us w hC hd=>wants_on (d:=116) (b:=true) rfl rfl (by rfl) (by rw[hsz];decide) (hd 32 (by decide))) (fun us w hC hd=>⟨_,w,load_val rfl ((fill_old (by rfl)).trans h13) (h13r w hC) Tryz.underlying23 rfl hI1,grown_refl _ _,rfl⟩)
  ·exact flow_step (fun us w hC hd=>wants_on (d:=116) (b:=true) rfl rfl (by rfl) (by rw[hsz];decide) (hd 32 (by decide))) (fun us w hC hd=>⟨_,w,load_val rfl ((fill_old (by rfl)).trans h1) (h1r w hC) Tryz.underlying23 rfl hI1,grown_refl _ _,rfl⟩)
  ·exact flow_step (fun us w hC hd=>wants_on (d:=116) (b:=true) rfl rfl (by rfl) (by rw[hsz];decide) (hd 32 (by decide))) (fun us w hC hd=>⟨_,w,eqlAgg_val rfl ((fill_tmp (by rfl) (by rw[hsz];decide)).trans (hd 33 (by decide))) ((fill_tmp (by rfl) (by rw[hsz];decide)).trans (hd 34 (by decide))) (hEq _ _),grown_refl _ _,rfl⟩)
  ·exact flow_step (fun us w hC hd=>wants_free rfl) (fun us w hC hd=>⟨_,w,pick_true rfl ((fill_tmp (by rfl) (by rw[hsz];decide)).trans (hd 32 (by decide))) ((fill_tmp (by rfl) (by rw[hsz];decide)).trans (hd 35 (by decide))),grown_refl _ _,rfl⟩)
  ·exact flow_step (fun us w hC hd=>wants_free rfl) (fun us w hC hd=>⟨_,w,move_val rfl ((fill_tmp (by rfl) (by rw[hsz];decide)).trans (hd 36 (by decide))),grown_refl _ _,rfl⟩)
  ·exact flow_step (fun us w hC hd=>wants_on (d:=121) (b:=true) rfl rfl (by rfl) (by rw[hsz];decide) (hd 37 (by decide))) (fun us w hC hd=>⟨_,w,move_val rfl ((fill_old (by rfl)).trans h3),grown_refl _ _,rfl⟩)
  ·exact flow_step (fun us w hC hd=>wants_on (d:=121) (b:=true) rfl rfl (by rfl) (by rw[hsz];decide) (hd 37 (by decide))) (fun us w hC hd=>⟨_,w,load_val rfl ((fill_old (by rfl)).trans h1) (h1r w hC) Tryz.underlying23 rfl hI1,grown_refl _ _,rfl⟩)
  ·refine flow_call 18 (fun us=>#[us 123]) (fun us w hC hd=>wants_on (d:=121) (b:=true) rfl rfl (by rfl) (by rw[hsz];decide) (hd 37 (by decide))) (fun us w=>by rw[call_enter rfl (fun _ _=>by simp[go_sem]),List.map_toArray,List.map_cons,List.map_nil,fill_tmp (by rfl) (by rw[hsz];decide)]) (fun us w hC' hd=>?_)
   rw[show us 123=.agg DC from hd 39 (by decide)]
   exact hP w hC'
  ·refine flow_call 17 (fun us=>#[us 122,us 124]) (fun us w hC hd=>wants_on (d:=121) (b:=true) rfl rfl (by rfl) (by rw[hsz];decide) (hd 37 (by decide))) (fun us w=>by rw[call_enter rfl (fun _ _=>by simp[go_sem]),List.map_toArray,List.map_cons,List.map_cons,List.map_nil,fill_tmp (by rfl) (by rw[hsz];decide),fill_tmp (by rfl) (by rw[hsz];decide)]) (fun us w hC' hd=>?_)
   rw[show us 122=.slice pa pn pc from hd 38 (by decide)]
   exact hS w _ hC' (hd 40 (by decide))
  ·exact flow_step (fun us w hC hd=>wants_free rfl) (fun us w hC hd=>⟨_,w,pick_true rfl ((fill_tmp (by rfl) (by rw[hsz];decide)).trans (hd 37 (by decide))) ((fill_tmp (by rfl) (by rw[hsz];decide)).trans (hd 41 (by decide))),grown_refl _ _,rfl⟩)
  ·exact flow_step (fun us w hC hd=>wants_free rfl) (fun us w hC hd=>⟨_,w,move_val rfl ((fill_tmp (by rfl) (by rw[hsz];decide)).trans (hd 42 (by decide))),grown_refl _ _,rfl⟩)
  ·exact flow_step (fun us w hC hd=>wants_on (d:=127) (b:=true) rfl rfl (by rfl) (by rw[hsz];decide) (hd 43 (by decide))) (fun us w hC hd=>⟨_,w,move_val rfl ((fill_old (by rfl)).trans h5),grown_refl _ _,rfl⟩)
  ·exact flow_step (fun us w hC hd=>wants_on (d:=127) (b:=true) rfl rfl (by rfl) (by rw[hsz];decide) (hd 43 (by decide))) (fun us w hC hd=>⟨_,w,load_val rfl ((fill_old (by rfl)).trans h1) (h1r w hC) Tryz.underlying23 rfl hI1,grown_refl _ _,rfl⟩)
  ·refine flow_call 19 (fun us=>#[us 129]) (fun us w hC hd=>wants_on (d:=127) (b:=true) rfl rfl (by rfl) (by rw[hsz];decide) (hd 43 (by decide))) (fun us w=>by rw[call_enter rfl (fun _ _=>by simp[go_sem]),List.map_toArray,List.map_cons,List.map_nil,fill_tmp (by rfl) (by rw[hsz];decide)]) (fun us w hC' hd=>?_)
   rw[show us 129=.agg DC from hd 45 (by decide)]
   exact hT w hC'
  ·exact flow_step (fun us w hC hd=>wants_on (d:=127) (b:=true) rfl rfl (by rfl) (by rw[hsz];decide) (hd 43 (by decide))) (fun us w hC hd=>⟨_,w,eqlstr_val rfl ((fill_tmp (by rfl) (by rw[hsz];decide)).trans (hd 44 (by decide))) ((fill_tmp (by rfl) (by rw[hsz];decide)).trans (hd 46 (by decide))),grown_refl _ _,rfl⟩)
  ·exact flow_step (fun us w hC hd=>wants_free rfl) (fun us w hC hd=>⟨_,w,pick_true rfl ((fill_tmp (by rfl) (by rw[hsz];decide)).trans (hd 43 (by decide))) ((fill_tmp (by rfl) (by rw[hsz];decide)).trans (hd 47 (by decide))),grown_refl _ _,rfl⟩)
  ·exact flow_step (fun us w hC hd=>wants_free rfl) (fun us w hC hd=>⟨_,w,move_val rfl ((fill_tmp (by rfl) (by rw[hsz];decide)).trans (hd 48 (by decide))),grown_refl _ _,rfl⟩)
  ·exact flow_step (fun us w hC hd=>wants_on (d:=133) (b:=true) rfl rfl (by rfl) (by rw[hsz];decide) (hd 49 (by decide))) (fun us w hC hd=>⟨_,w,move_val rfl ((fill_old (by rfl)).trans h7),grown_refl _ _,rfl⟩)
  ·exact flow_step (fun us w hC hd=>wants_on (d:=133) (b:=true) rfl rfl (by rfl) (by rw[hsz];decide) (hd 49 (by decide))) (fun us w hC hd=>⟨_,w,conv_val rfl ((fill_tmp (by rfl) (by rw[hsz];decide)).trans (hd 50 (by decide))) (hSa w hC),grown_refl _ _,rfl⟩)
  ·exact flow_step (fun us w hC hd=>wants_on (d:=133) (b:=true) rfl rfl (by rfl) (by rw[hsz];decide) (hd 49 (by decide))) (fun us w hC hd=>⟨_,w,load_val rfl ((fill_old (by rfl)).trans h1) (h1r w hC) Tryz.underlying23 rfl hI1,grown_refl _ _,rfl⟩)
  ·refine flow_call 20 (fun us=>#[us 136]) (fun us w hC hd=>wants_on (d:=133) (b:=true) rfl rfl (by rfl) (by rw[hsz];decide) (hd 49 (by decide))) (fun us w=>by rw[call_enter rfl (fun _ _=>by simp[go_sem]),List.map_toArray,List.map_cons,List.map_nil,fill_tmp (by rfl) (by rw[hsz];decide)]) (fun us w hC' hd=>?_)
   rw[show us 136=.agg DC from hd 52 (by decide)]
   exact hX w hC'
  ·exact flow_step (fun us w hC hd=>wants_on (d:=133) (b:=true) rfl rfl (by rfl) (by rw[hsz];decide) (hd 49 (by decide))) (fun us w hC hd=>⟨_,w,conv_val rfl (fill_tmp (by rfl) (by rw[hsz];decide)) (hSu w _ (hd 53 (by decide))),grown_refl _ _,rfl⟩)
  ·exact flow_step (fun us w hC hd=>wants_on (d:=133) (b:=true) rfl rfl (by rfl) (by rw[hsz];decide) (hd 49 (by decide))) (fun us w hC hd=>⟨_,w,eqlstr_val rfl ((fill_tmp (by rfl) (by rw[hsz];decide)).trans (hd 51 (by decide))) ((fill_tmp (by rfl) (by rw[hsz];decide)).trans (hd 54 (by decide))),grown_refl _ _,rfl⟩)
  ·exact flow_step (fun us w hC hd=>wants_free rfl) (fun us w hC hd=>⟨_,w,pick_true rfl ((fill_tmp (by rfl) (by rw[hsz];decide)).trans (hd 49 (by decide))) ((fill_tmp (by rfl) (by rw[hsz];decide)).trans (hd 55 (by decide))),grown_refl _ _,rfl⟩)
 ·intro us w' hC' hd
  exact wpList_last rfl (assign_val rfl ((fill_tmp (by rfl) (by rw[hsz];decide)).trans (hd 56 (by decide)))) (hQ us w' hC')
end Go.Proofs.YtijkaknggdaajaaGreatDoor
