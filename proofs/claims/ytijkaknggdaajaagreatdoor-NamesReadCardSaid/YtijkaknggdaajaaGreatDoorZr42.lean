import Derived.Test.YtijkaknggdaajaaGreatDoorZr35
import Derived.Test.YtijkaknggdaajaaGreatDoorZr41
set_option linter.unusedVariables false
set_option linter.unusedSimpArgs false
namespace Go.Proofs.YtijkaknggdaajaaGreatDoor
structure LeftN (m:Nat) (s:De.Rd):Prop where
 top:s.top.length≤2000
 all:∀ x∈s.left,x.length≤2000
 lev:s.left.length≤m
 e28:s.e≤28
theorem LeftN.start {l:List Nat} (h:l.length≤2000):LeftN 0 (De.start l):=⟨h,fun x hx=>absurd hx (by show x ∉ ([]:List (List Nat));simp),Nat.le_refl _,De.start_e28⟩
theorem LeftN.next {m:Nat} {s:De.Rd} (h:LeftN m s) (tag:Int):LeftN m (De.next s tag).1:=by
 obtain ⟨n1,n2,_⟩:=next_less (s:=s) (tag:=tag)
 exact ⟨Nat.le_trans n2 h.top,by rw[n1];exact h.all,by rw[n1];exact h.lev,De.next_e28 h.e28⟩
theorem LeftN.enter {m:Nat} {s:De.Rd} (h:LeftN m s) (tag:Int):LeftN (m+1) (De.enter s tag).1:=by
 have h28:(De.enter s tag).1.e≤28:=De.enter_e28 h.e28
 suffices hs:(De.enter s tag).1.top.length≤2000∧(∀ x∈(De.enter s tag).1.left,x.length≤2000)∧(De.enter s tag).1.left.length≤m+1 from ⟨hs.1,hs.2.1,hs.2.2,h28⟩
 have hl:=h.lev
 unfold De.enter
 by_cases he:s.e≠0
 ·rw[if_pos he];exact ⟨h.top,h.all,Nat.le_succ_of_le hl⟩
 rw[if_neg he]
 by_cases hq:s.top≠[]∧Tl.made tag=false
 ·rw[if_pos hq];exact ⟨h.top,h.all,by show s.left.length≤m+1;omega⟩
 rw[if_neg hq]
 have hn1:=h.next tag
 obtain ⟨n1,n2,n3⟩:=next_less (s:=s) (tag:=tag)
 cases hn:De.next s tag with
 |mk s2 r =>
  rw[hn] at hn1 n1 n2 n3
  have hl2:=hn1.lev
  cases r with
  |none=>exact ⟨hn1.top,hn1.all,by show s2.left.length≤m+1;exact Nat.le_succ_of_le hl2⟩
  |some xy =>
   obtain ⟨x,y⟩:=xy
   have hx:=(n3 x y rfl).2.2
   have ht:=h.top
   have ht2:=hn1.top
   refine ⟨by show x.length≤2000;omega,fun z hz=>?_,by show (s2.top :: s2.left).length≤m+1;rw[List.length_cons];exact Nat.succ_le_succ hl2⟩
   rcases List.mem_cons.1 hz with hz|hz
   ·rw[hz];exact ht2
   ·exact hn1.all z hz
theorem LeftN.leave {m:Nat} {s:De.Rd} (h:LeftN m s):LeftN m (De.leave s):=by
 have h28:(De.leave s).e≤28:=De.leave_e28 h.e28
 suffices hs:(De.leave s).top.length≤2000∧(∀ x∈(De.leave s).left,x.length≤2000)∧(De.leave s).left.length≤m from ⟨hs.1,hs.2.1,hs.2.2,h28⟩
 unfold De.leave
 have hl:=h.lev
 split
 ·exact ⟨h.top,h.all,h.lev⟩
 ·split
  ·exact ⟨h.top,h.all,h.lev⟩
  ·rename_i o r hlf
   rw[hlf] at hl
   have ho:=h.all o (by rw[hlf];exact List.mem_cons_self ..)
   have hr:∀ x∈r,x.length≤2000:=fun x hx=>h.all x (by rw[hlf];exact List.mem_cons_of_mem _ hx)
   rw[List.length_cons] at hl
   split
   ·exact ⟨h.top,h.all,h.lev⟩
   ·exact ⟨ho,hr,by show r.length≤m;omega⟩
theorem LeftN.said {m:Nat} {s:De.Rd} (h:LeftN m s) (k tag least most:Int) (h1:k≠1) (h2:k≠2):LeftN m (De.ask s k tag least most).1:=by
 have h28:(De.ask s k tag least most).1.e≤28:=De.ask_e28 h.e28
 suffices hs:(De.ask s k tag least most).1.top.length≤2000∧(∀ x∈(De.ask s k tag least most).1.left,x.length≤2000)∧(De.ask s k tag least most).1.left.length≤m from ⟨hs.1,hs.2.1,hs.2.2,h28⟩
 unfold De.ask
 by_cases he:s.e≠0
 ·rw[if_pos he];exact ⟨h.top,h.all,h.lev⟩
 rw[if_neg he,if_neg h1,if_neg h2]
 by_cases h11:k=11
 ·rw[if_pos h11]
  have hn1:=h.next 0
  cases hn:De.next s 0 with
  |mk s2 r =>
   rw[hn] at hn1
   cases r with
   |none=>exact ⟨hn1.top,hn1.all,hn1.lev⟩
   |some xy=>exact ⟨hn1.top,hn1.all,hn1.lev⟩
 ·rw[if_neg h11]
  have hn1:=h.next (De.tagOf k)
  cases hn:De.next s (De.tagOf k) with
  |mk s2 r =>
   rw[hn] at hn1
   cases r with
   |none=>exact ⟨hn1.top,hn1.all,hn1.lev⟩
   |some xy =>
    obtain ⟨x,y⟩:=xy
    simp only
    cases De.said k least most x with
    |error e=>exact ⟨hn1.top,hn1.all,hn1.lev⟩
    |ok v=>exact ⟨hn1.top,hn1.all,hn1.lev⟩
theorem LeftN.first {m:Nat} {s:De.Rd} (h:LeftN m s):∀ l,(∃ t i n,Tl.first s.top=.ok (t,i,n)∧l=(s.top.drop i).take n)→l.length≤2000:=by
 rintro l ⟨t,i,n,_,rfl⟩
 have:=h.top
 rw[List.length_take,List.length_drop];omega
theorem LeftN.part {m:Nat} {s:De.Rd} (h:LeftN m s):LeftN (m+1) (Na.getPart s).1:=by
 have h1:=h.enter 48
 rw[←ask_enter s 48 0 0] at h1
 have h4:=((h1.said 8 0 0 0 (by decide) (by decide)).said 7 0 0 64 (by decide) (by decide)).leave
 rw[←ask_leave _ 0 0 0] at h4
 exact h4
def PartM (m j:Nat) (s:De.Rd):Prop:=j≤8∧LeftN (m+j+1) s
theorem getParts_row:∀ (f:Nat) (s:De.Rd) (l:List Na.Pr),Na.getParts f s l=rowG Na.getPart f s l
 |0,s,l=>rfl
 |f+1,s,l=>by
  rw[Na.getParts,rowG]
  by_cases h:De.more s=true
  ·rw[if_pos h,if_pos h];exact getParts_row f _ _
  ·rw[if_neg h,if_neg h]
theorem getS_row (s:De.Rd):Na.getS s=Na.getEnd (De.leave (rowG Na.getPart 8 (De.enter s 48).1 []).1) (rowG Na.getPart 8 (De.enter s 48).1 []).2:=by
 unfold Na.getS
 rw[ask_leave,ask_enter,getParts_row]
theorem text_le (s:De.Rd) (tag least:Int):(De.ask s 7 tag least 64).2.t.length≤64:=by
 unfold De.ask
 by_cases he:s.e≠0
 ·rw[if_pos he];simp[De.none0]
 rw[if_neg he,if_neg (by decide),if_neg (by decide),if_neg (by decide)]
 cases De.next s (De.tagOf 7) with
 |mk s2 r =>
  cases r with
  |none=>simp[De.none0]
  |some xy =>
   obtain ⟨x,y⟩:=xy
   simp only
   cases hs:De.said 7 least 64 x with
   |error e=>simp[De.none0]
   |ok v =>
    unfold De.said at hs
    rw[if_neg (by decide),if_neg (by decide),if_neg (by decide),if_pos rfl] at hs
    by_cases ha:Pt.asked x 64=0
    ·rw[if_pos ha] at hs
     rw[←Except.ok.inj hs]
     show x.length≤64
     unfold Pt.asked at ha
     by_cases h0:x.length=0
     ·omega
     ·rw[if_neg h0] at ha
      by_cases h3:(64:Int)<(x.length:Int)
      ·rw[if_pos h3] at ha;exact absurd ha (by decide)
      ·omega
    ·rw[if_neg ha] at hs;cases hs
theorem part_le (s:De.Rd):(Na.getPart s).2.2.size≤900:=by
 show (strOf (De.ask (De.ask (De.ask s 1 48 0 0).1 8 0 0 0).1 7 0 0 64).2.t).size≤900
 have:=text_le (De.ask (De.ask s 1 48 0 0).1 8 0 0 0).1 0 0
 rw[strOf_size];omega
theorem rowG_all {α:Type} {G:De.Rd→De.Rd×α} {Q:α→Prop} (hG:∀ s,Q (G s).2):∀ (f:Nat) (s:De.Rd) (l:List α),(∀ p∈l,Q p)→∀ p∈(rowG G f s l).2,Q p
 |0,s,l,h=>by rw[rowG];exact h
 |f+1,s,l,h=>by
  rw[rowG]
  by_cases hm:De.more s=true
  ·rw[if_pos hm]
   exact rowG_all hG f _ _ (fun p hp=>by
    rcases List.mem_append.1 hp with hp|hp
    ·exact h p hp
    ·rw[List.mem_singleton.1 hp];exact hG s)
  ·rw[if_neg hm];exact h
theorem rowG_len {α:Type} {G:De.Rd→De.Rd×α}:∀ (f:Nat) (s:De.Rd) (l:List α),(rowG G f s l).2.length≤l.length+f
 |0,s,l=>by rw[rowG];exact Nat.le_refl _
 |f+1,s,l=>by
  rw[rowG]
  by_cases hm:De.more s=true
  ·rw[if_pos hm]
   have:=rowG_len (G:=G) f (G s).1 (l++[(G s).2])
   rw[List.length_append,List.length_singleton] at this
   omega
  ·rw[if_neg hm];show l.length≤_;omega
theorem rowEnd_small (s:De.Rd):(rowEnd Na.getPart s 48 8).2.length≤2000∧∀ p∈(rowEnd Na.getPart s 48 8).2,p.2.size≤900:=by
 unfold rowEnd
 simp only
 split
 ·exact ⟨by simp,by simp⟩
 ·have:=rowG_len (G:=Na.getPart) 8 (De.enter s 48).1 []
  exact ⟨by simp at this;omega,rowG_all part_le 8 _ [] (by simp)⟩
theorem getS_end (s:De.Rd):Na.getS s=Na.getEnd (rowEnd Na.getPart s 48 8).1 (rowEnd Na.getPart s 48 8).2:=by
 rw[getS_row]
 unfold rowEnd
 simp only
 split
 ·rename_i h
  unfold Na.getEnd
  rw[if_pos h,if_pos h]
 ·rfl
end Go.Proofs.YtijkaknggdaajaaGreatDoor
