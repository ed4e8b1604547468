/- Facts, joined. -/
import Derived.Test.YtppkiejhhmahcaaGreatDoorSaM
import Derived.Test.YtppkiejhhmahcaaGreatDoorSaJ
set_option linter.unusedSimpArgs false
set_option linter.unusedVariables false
set_option maxHeartbeats 6400000
set_option maxRecDepth 100000
namespace Go.Proofs.YtppkiejhhmahcaaGreatDoor.Dw
open ChangeShapes WideShapes ChangeAt RowKit Pl Wt
theorem drewN_two (w:World)(a b:Nat):(w.drewN a).drewN b=w.drewN (a+b):=by
 show({w with drawn:=w.drawn+a+b}:World)={w with drawn:=w.drawn+(a+b)}
 rw[Nat.add_assoc]
theorem wkLessD {B base g n cap:Nat}{hs:List Ar}{w:World}(q:Nat)(hown:w.ownsRow base 211 2 (.slice (some ⟨g,0,none⟩) n cap) n (hs.flatMap encD))(hl:hs.length=n)(hn:n≤10000000){i j:Nat}(hi:i<n)(hj:j<n):
  Calls Tryz.prog 224 #[.slice (some ⟨g,0,none⟩) n cap,.int .i64 (i:Int),.int .i64 (j:Int)] (w.drewN q) fun e w'=>e= .returned (.bool (decide ((el hs i).2.2.2<(el hs j).2.2.2)))∧∃ q2,w'=w.drewN q2:=
 (wkLess (B:=B) (w:=w.drewN q) ⟨hown.1,hown.2⟩ hl hn hi hj).mono fun _ _ h=>⟨h.1,by obtain⟨q2,h2⟩:=h.2;exact⟨q+q2,h2.trans (drewN_two w q q2)⟩⟩
theorem wDown_any (B base g m cap n:Nat)(hs:List Ar)(w:World)(hB:Blk w B #[.slice (some ⟨g,0,none⟩) m cap] 209)(hown:w.ownsRow base 211 2 (.slice (some ⟨g,0,none⟩) m cap) m (hs.flatMap encD))(hl:hs.length=m)(hnm:n<m)(hm:m≤10000000)(hD:DownW hs 0 n):
  Calls Tryz.prog 189 #[.iface 213 (.pointer (some ⟨B,0,none⟩)),.int .i64 0,.int .i64 (n:Int)] w fun e w'=>(∃ b,e= .returned (.bool b))∧∃ hs',HeapW hs' n∧hs'.Perm hs∧hs'.drop n=hs.drop n∧w'.ownsRow base 211 2 (.slice (some ⟨g,0,none⟩) m cap) m (hs'.flatMap encD)∧Blk w' B #[.slice (some ⟨g,0,none⟩) m cap] 209∧w.grownBy w' (some g):=by
 have HB0:Hid (Blk w B #[.slice (some ⟨g,0,none⟩) m cap] 209):=hB;have HO0:Hid (w.ownsRow base 211 2 (.slice (some ⟨g,0,none⟩) m cap) m (hs.flatMap encD)):=hown;have HD0:Hid (DownW hs 0 n∧hs.length=m∧hs.Perm hs∧hs.drop n=hs.drop n):=⟨hD,hl,List.Perm.refl _,rfl⟩
 clear hB hown hl hD;have hnot:∀ (x:Bool) (w:World),(Op.unary .not (.bool x)).run Tryz.prog w= .ok (.bool (!x)) w:=fun _ _=>rfl
 go_enter Tryz.func189,Tryz.ntmps189;go_wp2;go_loopw [7] (fun s7 wr=>∃ (i:Nat) (hs':List Ar),s7= .int .i64 (i:Int)∧i<m∧Hid (DownW hs' i n∧hs'.length=m∧hs'.Perm hs∧hs'.drop n=hs.drop n)∧Hid (wr.ownsRow base 211 2 (.slice (some ⟨g,0,none⟩) m cap) m (hs'.flatMap encD))∧Hid (Blk wr B #[.slice (some ⟨g,0,none⟩) m cap] 209)∧Hid (w.grownBy wr (some g))) (fun s7 _=>m-(intOf s7).toNat)
 case atStart=>exact ⟨0,hs,rfl,by omega,⟨HD0.out.1,HD0.out.2.1,List.Perm.refl _,rfl⟩,HO0,HB0,gNew (Below.refl _ _)⟩
 case round=>
  obtain⟨i,hs',rfl,him,hD,hO,hB,hg⟩:=hrel
  clear HB0 HO0 HD0;have HLN:Hid (hs'.length=m):=hD.out.2.1;have hneg:decide (2*(i:Int)+1<0)=false:=decide_eq_false (by omega);by_cases h1:n≤2*i+1
  ·have h1z:(n:Int)≤2*(i:Int)+1:=by omega
   have HH:Hid (HeapW hs' n):=hD.out.1.leaf h1;go_wp2;go_ret;exact⟨⟨_,rfl⟩,hs',HH.out,hD.out.2.2.1,hD.out.2.2.2,hO.out,hB.out,hg.out⟩
  ·have h1z:¬ (n:Int)≤2*(i:Int)+1:=by omega
   have h1d:decide ((n:Int)≤2*(i:Int)+1)=false:=decide_eq_false h1z;have mL0:=methW_less (hB.out.cell 0 (v:= .slice (some ⟨g,0,none⟩) m cap) rfl);have mL : ∀ q, Sem.run Tryz.prog (method 372 213 (.pointer (some ⟨B, 0, none⟩)) "Less") (wr.drewN q) = .ok (224, .slice (some ⟨g, 0, none⟩) m cap) (wr.drewN q) := fun q => methW_less ((hB.out.drewN q).cell 0 (v := .slice (some ⟨g, 0, none⟩) m cap) rfl)
   have mS : ∀ q, Sem.run Tryz.prog (method 372 213 (.pointer (some ⟨B, 0, none⟩)) "Swap") (wr.drewN q) = .ok (225, .slice (some ⟨g, 0, none⟩) m cap) (wr.drewN q) := fun q => methW_swap ((hB.out.drewN q).cell 0 (v := .slice (some ⟨g, 0, none⟩) m cap) rfl)
   by_cases h2:2*i+1+1<n
   ·have h2z:2*(i:Int)+1+1<(n:Int):=by omega
    have h2d:decide (2*(i:Int)+1+1<(n:Int))=true:=decide_eq_true h2z;by_cases hr:(el hs' (2*i+1+1)).2.2.2<(el hs' (2*i+1)).2.2.2
    ·skip
     have hcm:2*i+1+1<m:=by omega
     have ec:((2*i+1+1:Nat):Int)=2*(i:Int)+1+1:=by omega
     have LC:Hid (LowW hs' i n (2*i+1+1)):=LowW.right h2 hr;have HL2:Hid (∀ q,Calls Tryz.prog 224 #[.slice (some ⟨g,0,none⟩) m cap,.int .i64 (2*(i:Int)+1+1),.int .i64 (i:Int)] (wr.drewN q) fun e w'=>e= .returned (.bool (decide ((el hs' (2*i+1+1)).2.2.2<(el hs' i).2.2.2)))∧∃ q2,w'=wr.drewN q2):=by have h9:=fun q=>wkLessD (B:=B) q hO.out HLN.out hm (i:=2*i+1+1) (j:=i) hcm him;rw[ec]at h9;exact h9
     have HL1:Hid (Calls Tryz.prog 224 #[.slice (some ⟨g,0,none⟩) m cap,.int .i64 (2*(i:Int)+1+1),.int .i64 (2*(i:Int)+1)] wr fun e w'=>e= .returned (.bool true)∧∃ q2,w'=wr.drewN q2):=by have h9:=wkLessD (B:=B) 0 hO.out HLN.out hm (i:=2*i+1+1) (j:=2*i+1) (by omega) (by omega);rw[show ((2*i+1+1:Nat):Int)=2*(i:Int)+1+1 by omega,show ((2*i+1:Nat):Int)=2*(i:Int)+1 by omega]at h9;rw[decide_eq_true hr]at h9;exact h9
     have HSW:Hid (∀ q,Calls Tryz.prog 225 #[.slice (some ⟨g,0,none⟩) m cap,.int .i64 (i:Int),.int .i64 (2*(i:Int)+1+1)] (wr.drewN q) fun e w'=>e= .returned (.tuple #[])∧w'.ownsRow base 211 2 (.slice (some ⟨g,0,none⟩) m cap) m ((swpW hs' i (2*i+1+1)).flatMap encD)∧Blk w' B #[.slice (some ⟨g,0,none⟩) m cap] 209∧(wr.drewN q).grownBy w' (some g)):=by have h9:=fun q=>wkSwap (B:=B) (w:=wr.drewN q) ⟨hO.out.1,hO.out.2⟩ (hB.out.drewN q) HLN.out hm (i:=i) (j:=2*i+1+1) him hcm;rw[ec]at h9;exact h9
     by_cases hlt:(el hs' (2*i+1+1)).2.2.2<(el hs' i).2.2.2
     ·rw [decide_eq_true hlt]at HL2
      have HD2:Hid (DownW (swpW hs' i (2*i+1+1)) (2*i+1+1) n∧(swpW hs' i (2*i+1+1)).length=m∧(swpW hs' i (2*i+1+1)).Perm hs∧(swpW hs' i (2*i+1+1)).drop n=hs.drop n):=⟨hD.out.1.swap (by rw[HLN.out];omega) LC.out hlt,by rw[jjay];exact HLN.out,(jjby (by rw[HLN.out];exact him) (by rw[HLN.out];exact hcm)).trans hD.out.2.2.1,(jjcn (by omega) (by omega)).trans hD.out.2.2.2⟩
      clear hlt LC hD hr;go_wp2_with (first
       | (go_at_call 224;(with_reducible refine HL1.out.mono ?_);rintro e w' ⟨rfl,q1,rfl⟩)
       | (go_at_call 224;(with_reducible refine(HL2.out _).mono ?_);rintro e w' ⟨rfl,q,rfl⟩)
       | (go_at_call 225;refine(HSW.out _).mono ?_;rintro e w' ⟨rfl,ho2,hb2,hg2⟩;have HO2:Hid (w'.ownsRow base 211 2 (.slice (some ⟨g,0,none⟩) m cap) m ((swpW hs' i (2*i+1+1)).flatMap encD)):=ho2;have HB2:Hid (Blk w' B #[.slice (some ⟨g,0,none⟩) m cap] 209):=hb2;have HG2:Hid (w.grownBy w' (some g)):=gTrans (gTrans hg.out (gNew (belowDN wr q))) hg2;clear ho2 hb2 hg2))
      go_roundw
      case rel=>exact ⟨2*i+1+1,swpW hs' i (2*i+1+1),by rw[ec],hcm,HD2,HO2,HB2,HG2⟩
      case measure=>simp [intOf];omega
     ·rw [decide_eq_false hlt]at HL2
      have HH:Hid (HeapW hs' n):=hD.out.1.stop LC.out hlt;clear hlt LC hr;go_wp2_with (first
       | (go_at_call 224;(with_reducible refine HL1.out.mono ?_);rintro e w' ⟨rfl,q1,rfl⟩)
       | (go_at_call 224;(with_reducible refine(HL2.out _).mono ?_);rintro e w' ⟨rfl,q,rfl⟩))
      go_ret;exact⟨⟨_,rfl⟩,hs',HH.out,hD.out.2.2.1,hD.out.2.2.2,⟨hO.out.1,hO.out.2⟩,hB.out.drewN q,gTrans hg.out (gNew (belowDN wr q))⟩
    ·skip
     have hcm:2*i+1<m:=by omega
     have ec:((2*i+1:Nat):Int)=2*(i:Int)+1:=by omega
     have LC:Hid (LowW hs' i n (2*i+1)):=LowW.left (by omega) (fun _=>hr)
     have HL2:Hid (∀ q,Calls Tryz.prog 224 #[.slice (some ⟨g,0,none⟩) m cap,.int .i64 (2*(i:Int)+1),.int .i64 (i:Int)] (wr.drewN q) fun e w'=>e= .returned (.bool (decide ((el hs' (2*i+1)).2.2.2<(el hs' i).2.2.2)))∧∃ q2,w'=wr.drewN q2):=by have h9:=fun q=>wkLessD (B:=B) q hO.out HLN.out hm (i:=2*i+1) (j:=i) hcm him;rw[ec]at h9;exact h9
     have HL1:Hid (Calls Tryz.prog 224 #[.slice (some ⟨g,0,none⟩) m cap,.int .i64 (2*(i:Int)+1+1),.int .i64 (2*(i:Int)+1)] wr fun e w'=>e= .returned (.bool false)∧∃ q2,w'=wr.drewN q2):=by have h9:=wkLessD (B:=B) 0 hO.out HLN.out hm (i:=2*i+1+1) (j:=2*i+1) (by omega) (by omega);rw[show ((2*i+1+1:Nat):Int)=2*(i:Int)+1+1 by omega,show ((2*i+1:Nat):Int)=2*(i:Int)+1 by omega]at h9;rw[decide_eq_false hr]at h9;exact h9
     have HSW:Hid (∀ q,Calls Tryz.prog 225 #[.slice (some ⟨g,0,none⟩) m cap,.int .i64 (i:Int),.int .i64 (2*(i:Int)+1)] (wr.drewN q) fun e w'=>e= .returned (.tuple #[])∧w'.ownsRow base 211 2 (.slice (some ⟨g,0,none⟩) m cap) m ((swpW hs' i (2*i+1)).flatMap encD)∧Blk w' B #[.slice (some ⟨g,0,none⟩) m cap] 209∧(wr.drewN q).grownBy w' (some g)):=by have h9:=fun q=>wkSwap (B:=B) (w:=wr.drewN q) ⟨hO.out.1,hO.out.2⟩ (hB.out.drewN q) HLN.out hm (i:=i) (j:=2*i+1) him hcm;rw[ec]at h9;exact h9
     by_cases hlt:(el hs' (2*i+1)).2.2.2<(el hs' i).2.2.2
     ·rw [decide_eq_true hlt]at HL2
      have HD2:Hid (DownW (swpW hs' i (2*i+1)) (2*i+1) n∧(swpW hs' i (2*i+1)).length=m∧(swpW hs' i (2*i+1)).Perm hs∧(swpW hs' i (2*i+1)).drop n=hs.drop n):=⟨hD.out.1.swap (by rw[HLN.out];omega) LC.out hlt,by rw[jjay];exact HLN.out,(jjby (by rw[HLN.out];exact him) (by rw[HLN.out];exact hcm)).trans hD.out.2.2.1,(jjcn (by omega) (by omega)).trans hD.out.2.2.2⟩
      clear hlt LC hD hr;go_wp2_with (first
       | (go_at_call 224;(with_reducible refine HL1.out.mono ?_);rintro e w' ⟨rfl,q1,rfl⟩)
       | (go_at_call 224;(with_reducible refine(HL2.out _).mono ?_);rintro e w' ⟨rfl,q,rfl⟩)
       | (go_at_call 225;refine(HSW.out _).mono ?_;rintro e w' ⟨rfl,ho2,hb2,hg2⟩;have HO2:Hid (w'.ownsRow base 211 2 (.slice (some ⟨g,0,none⟩) m cap) m ((swpW hs' i (2*i+1)).flatMap encD)):=ho2;have HB2:Hid (Blk w' B #[.slice (some ⟨g,0,none⟩) m cap] 209):=hb2;have HG2:Hid (w.grownBy w' (some g)):=gTrans (gTrans hg.out (gNew (belowDN wr q))) hg2;clear ho2 hb2 hg2))
      go_roundw
      case rel=>exact ⟨2*i+1,swpW hs' i (2*i+1),by rw[ec],hcm,HD2,HO2,HB2,HG2⟩
      case measure=>simp [intOf];omega
     ·rw [decide_eq_false hlt]at HL2
      have HH:Hid (HeapW hs' n):=hD.out.1.stop LC.out hlt;clear hlt LC hr;go_wp2_with (first
       | (go_at_call 224;(with_reducible refine HL1.out.mono ?_);rintro e w' ⟨rfl,q1,rfl⟩)
       | (go_at_call 224;(with_reducible refine(HL2.out _).mono ?_);rintro e w' ⟨rfl,q,rfl⟩))
      go_ret;exact⟨⟨_,rfl⟩,hs',HH.out,hD.out.2.2.1,hD.out.2.2.2,⟨hO.out.1,hO.out.2⟩,hB.out.drewN q,gTrans hg.out (gNew (belowDN wr q))⟩
   ·have h2z:¬ 2*(i:Int)+1+1<(n:Int):=by omega
    have h2d:decide (2*(i:Int)+1+1<(n:Int))=false:=decide_eq_false h2z;have hr:True:=trivial;have hcm:2*i+1<m:=by omega
    have ec:((2*i+1:Nat):Int)=2*(i:Int)+1:=by omega
    have LC:Hid (LowW hs' i n (2*i+1)):=LowW.left (by omega) (fun h=>absurd h h2)
    have HL2:Hid (∀ q,Calls Tryz.prog 224 #[.slice (some ⟨g,0,none⟩) m cap,.int .i64 (2*(i:Int)+1),.int .i64 (i:Int)] (wr.drewN q) fun e w'=>e= .returned (.bool (decide ((el hs' (2*i+1)).2.2.2<(el hs' i).2.2.2)))∧∃ q2,w'=wr.drewN q2):=by have h9:=fun q=>wkLessD (B:=B) q hO.out HLN.out hm (i:=2*i+1) (j:=i) hcm him;rw[ec]at h9;exact h9
    have HSW:Hid (∀ q,Calls Tryz.prog 225 #[.slice (some ⟨g,0,none⟩) m cap,.int .i64 (i:Int),.int .i64 (2*(i:Int)+1)] (wr.drewN q) fun e w'=>e= .returned (.tuple #[])∧w'.ownsRow base 211 2 (.slice (some ⟨g,0,none⟩) m cap) m ((swpW hs' i (2*i+1)).flatMap encD)∧Blk w' B #[.slice (some ⟨g,0,none⟩) m cap] 209∧(wr.drewN q).grownBy w' (some g)):=by have h9:=fun q=>wkSwap (B:=B) (w:=wr.drewN q) ⟨hO.out.1,hO.out.2⟩ (hB.out.drewN q) HLN.out hm (i:=i) (j:=2*i+1) him hcm;rw[ec]at h9;exact h9
    by_cases hlt:(el hs' (2*i+1)).2.2.2<(el hs' i).2.2.2
    ·rw [decide_eq_true hlt]at HL2
     have HL20:Hid (Calls Tryz.prog 224 #[.slice (some ⟨g,0,none⟩) m cap,.int .i64 (2*(i:Int)+1),.int .i64 (i:Int)] wr fun e w'=>e= .returned (.bool true)∧∃ q2,w'=wr.drewN q2):=HL2.out 0
     have HD2:Hid (DownW (swpW hs' i (2*i+1)) (2*i+1) n∧(swpW hs' i (2*i+1)).length=m∧(swpW hs' i (2*i+1)).Perm hs∧(swpW hs' i (2*i+1)).drop n=hs.drop n):=⟨hD.out.1.swap (by rw[HLN.out];omega) LC.out hlt,by rw[jjay];exact HLN.out,(jjby (by rw[HLN.out];exact him) (by rw[HLN.out];exact hcm)).trans hD.out.2.2.1,(jjcn (by omega) (by omega)).trans hD.out.2.2.2⟩
     clear hlt LC hD hr;go_wp2_with (first
      | (go_at_call 224;refine HL20.out.mono ?_;rintro e w' ⟨rfl,q,rfl⟩)
      | (go_at_call 225;refine(HSW.out _).mono ?_;rintro e w' ⟨rfl,ho2,hb2,hg2⟩;have HO2:Hid (w'.ownsRow base 211 2 (.slice (some ⟨g,0,none⟩) m cap) m ((swpW hs' i (2*i+1)).flatMap encD)):=ho2;have HB2:Hid (Blk w' B #[.slice (some ⟨g,0,none⟩) m cap] 209):=hb2;have HG2:Hid (w.grownBy w' (some g)):=gTrans (gTrans hg.out (gNew (belowDN wr q))) hg2;clear ho2 hb2 hg2))
     go_roundw
     case rel=>exact ⟨2*i+1,swpW hs' i (2*i+1),by rw[ec],hcm,HD2,HO2,HB2,HG2⟩
     case measure=>simp [intOf];omega
    ·rw [decide_eq_false hlt]at HL2
     have HL20:Hid (Calls Tryz.prog 224 #[.slice (some ⟨g,0,none⟩) m cap,.int .i64 (2*(i:Int)+1),.int .i64 (i:Int)] wr fun e w'=>e= .returned (.bool false)∧∃ q2,w'=wr.drewN q2):=HL2.out 0;have HH:Hid (HeapW hs' n):=hD.out.1.stop LC.out hlt;clear hlt LC hr;go_wp2_with (first
      | (go_at_call 224;refine HL20.out.mono ?_;rintro e w' ⟨rfl,q,rfl⟩))
     go_ret;exact⟨⟨_,rfl⟩,hs',HH.out,hD.out.2.2.1,hD.out.2.2.2,⟨hO.out.1,hO.out.2⟩,hB.out.drewN q,gTrans hg.out (gNew (belowDN wr q))⟩
theorem whPush_any (B base:Nat)(v:Value)(hs:List Ar)(q:Ar)(w:World)(hB:Blk w B #[v] 209)(hown:w.ownsRow base 211 2 v hs.length (hs.flatMap encD))(hbase:base≤w.heap.size)(hn:hs.length≤9000000)(hH:HeapW hs hs.length):
  Calls Tryz.prog 173 #[.iface 213 (.pointer (some ⟨B,0,none⟩)),wayV q] w fun e w'=>e= .returned (.tuple #[])∧∃ v' hs',HeapW hs' hs'.length∧hs'.Perm (hs++[q])∧Blk w' B #[v'] 209∧w'.ownsRow base 211 2 v' hs'.length (hs'.flatMap encD)∧Near w v.ownBlock v'∧Turn2 w w' B v.ownBlock:=by
 have HP:Hid (Calls Tryz.prog 227 #[.pointer (some ⟨B,0,none⟩),wayV q] w fun e w'=>e= .returned (.tuple #[])∧∃ v',Blk w' B #[v'] 209∧w'.ownsRow base 211 2 v' (hs++[q]).length ((hs++[q]).flatMap encD)∧Near w v.ownBlock v'∧Turn2 w w' B v.ownBlock):=wPush_any B base v hs q w hB hown hbase (by omega);have HU:Hid (UpW (hs++[q]) hs.length):=UpW.start hH q
 have HL:Hid ((hs++[q]).length=hs.length+1):=by simp[Hid]
 have mP:=methW_push B w;generalize hs++[q]=hq at *;generalize hs.length=n at *;clear hB hown hH;generalize v.ownBlock=r at *;go_enter Tryz.func173,Tryz.ntmps173;go_wp2_with (first
  | (go_at_call 227;(with_reducible refine HP.out.mono ?_);rintro e w1 ⟨rfl,v1,hb1,ho1,hn1,ht1⟩;obtain⟨g1,cap1,hv1,_,_,_⟩:=own_someW ho1 (by rw[HL.out];omega);subst hv1;rw[HL.out]at ho1 hb1 hn1;have HB1:Hid (Blk w1 B #[.slice (some ⟨g1,0,none⟩) (n+1) cap1] 209):=hb1;have HO1:Hid (w1.ownsRow base 211 2 (.slice (some ⟨g1,0,none⟩) (n+1) cap1) (n+1) (hq.flatMap encD)):=ho1;have HN1:Hid (Near w r (.slice (some ⟨g1,0,none⟩) (n+1) cap1)):=hn1;have HT1:Hid (Turn2 w w1 B r):=ht1;have mN:=methW_len (hb1.cell 0 (v:= .slice (some ⟨g1,0,none⟩) (n+1) cap1) rfl);clear hb1 ho1 hn1 ht1)
  | (go_at_call 174;(with_reducible refine(wLen_any _ _ _ _).mono ?_);rintro e w2 ⟨rfl,rfl⟩)
  | (go_at_call 188;(with_reducible refine(wUp_any B base g1 (n+1) cap1 hq n _ HB1.out HO1.out HL.out (by omega) HU.out (by omega)).mono ?_);rintro e w3 ⟨rfl,hs3,hh3,hp3,ho3,hb3,hg3⟩))
 go_end0;have hl3:hs3.length=n+1:=by rw[hp3.length_eq];exact HL.out
 refine⟨rfl,_,hs3,by rw[hl3];exact hh3,hp3,hb3,by rw[hl3];exact ho3,HN1.out,HT1.out.trans (Turn2.grown hg3 B) ?_⟩
 rcases HN1.out with e | ⟨c,e,hc⟩
 ·exact .inl e
 ·exact .inr ⟨c,e,hc⟩
theorem whPop_any (B base:Nat)(v:Value)(hs:List Ar)(w:World)(hB:Blk w B #[v] 209)(hown:w.ownsRow base 211 2 v hs.length (hs.flatMap encD))(h0:0<hs.length)(hn:hs.length≤9000000)(hH:HeapW hs hs.length):
  Calls Tryz.prog 175 #[.iface 213 (.pointer (some ⟨B,0,none⟩))] w fun e w'=>∃ x,e= .returned (wayV x)∧∃ v' hs',HeapW hs' hs'.length∧(x::hs').Perm hs∧(∀ y ∈ hs',x.2.2.2≤y.2.2.2)∧Blk w' B #[v'] 209∧w'.ownsRow base 211 2 v' hs'.length (hs'.flatMap encD)∧v'.ownBlock=v.ownBlock∧Turn2 w w' B v.ownBlock:=by
 obtain⟨n,hl⟩:∃ n,hs.length=n+1:=⟨hs.length-1,by omega⟩
 rw[hl]at hown;obtain⟨g,cap,hv,_,_,_⟩:=own_someW hown (by omega)
 subst hv;have HLN:Hid (hs.length=n+1):=hl;have HH:Hid (HeapW hs hs.length):=hH;have mN:=methW_len (hB.cell 0 (v:= .slice (some ⟨g,0,none⟩) (n+1) cap) rfl);have mS:=methW_swap (hB.cell 0 (v:= .slice (some ⟨g,0,none⟩) (n+1) cap) rfl)
 have HSW:Hid (Calls Tryz.prog 225 #[.slice (some ⟨g,0,none⟩) (n+1) cap,.int .i64 0,.int .i64 (n:Int)] w fun e w'=>e= .returned (.tuple #[])∧w'.ownsRow base 211 2 (.slice (some ⟨g,0,none⟩) (n+1) cap) (n+1) ((swpW hs 0 n).flatMap encD)∧Blk w' B #[.slice (some ⟨g,0,none⟩) (n+1) cap] 209∧w.grownBy w' (some g)):=wkSwap (B:=B) hown hB hl (by omega) (i:=0) (j:=n) (by omega) (by omega)
 have HD:Hid (DownW (swpW hs 0 n) 0 n):=DownW.start hH hl;have HLS:Hid ((swpW hs 0 n).length=n+1):=by show _=_;rw[jjay];exact hl
 have mP:=methW_pop B;have h9:n≤9000000:=by omega
 clear hB hown hH hl hn h0;generalize hsw:swpW hs 0 n=hq at *;have HSQ:Hid (swpW hs 0 n=hq):=hsw;clear hsw;go_enter Tryz.func175,Tryz.ntmps175;go_wp2_with (first
  | (go_at_call 174;(with_reducible refine(wLen_any _ _ _ _).mono ?_);rintro e w2 ⟨rfl,rfl⟩)
  | (go_at_call 225;(with_reducible refine HSW.out.mono ?_);rintro e w1 ⟨rfl,ho1,hb1,hg1⟩;have HO1:Hid (w1.ownsRow base 211 2 (.slice (some ⟨g,0,none⟩) (n+1) cap) (n+1) (hq.flatMap encD)):=ho1;have HB1:Hid (Blk w1 B #[.slice (some ⟨g,0,none⟩) (n+1) cap] 209):=hb1;have HG1:Hid (w2.grownBy w1 (some g)):=hg1;clear ho1 hb1 hg1)
  | (go_at_call 189;(with_reducible refine(wDown_any B base g (n+1) cap n hq _ HB1.out HO1.out HLS.out (by omega) (by omega) HD.out).mono ?_);rintro e w3 ⟨⟨b3,rfl⟩,hs3,hh3,hp3,hd3,ho3,hb3,hg3⟩;have HO3:Hid (w3.ownsRow base 211 2 (.slice (some ⟨g,0,none⟩) (n+1) cap) hs3.length (hs3.flatMap encD)):=(by show World.ownsRow _ _ _ _ _ _ _;rw[hp3.length_eq,HLS.out];exact ho3);have HB3:Hid (Blk w3 B #[.slice (some ⟨g,0,none⟩) (n+1) cap] 209):=hb3;have HG3:Hid (w1.grownBy w3 (some g)):=hg3;have HF3:Hid (HeapW hs3 n∧hs3.Perm hq∧hs3.drop n=hq.drop n):=⟨hh3,hp3,hd3⟩;clear hh3 hp3 hd3 ho3 hb3 hg3)
  | (go_at_call 226;(with_reducible refine(wPop_any B base _ hs3 n _ HB3.out HO3.out (by rw[HF3.out.2.1.length_eq,HLS.out]) (by omega)).mono ?_);rintro e w4 ⟨rfl,v4,hb4,ho4,hr4,ht4⟩))
 have hpf:=popW_facts HH.out HLN.out (by rw[HSQ.out];exact HF3.out.2.1) (by rw[HSQ.out];exact HF3.out.2.2) HF3.out.1;have hl4:(hs3.take n).length=n:=by rw[List.length_take,HF3.out.2.1.length_eq,HLS.out];omega
 go_ret;refine⟨_,rfl,v4,hs3.take n,by rw[hl4];exact hpf.2.1,by rw[hpf.1];exact hpf.2.2.1,by rw[hpf.1];exact hpf.2.2.2,hb4,by rw[hl4];exact ho4,hr4,?_⟩
 exact(Turn2.grown (gTrans HG1.out HG3.out) B).trans ht4 (.inl rfl)
end Dw
namespace Pl
def wyD (p c:Nat):Ar:=((p:Int),0,0,(c:Int))
theorem jjcu {p q c d:Nat}(h:wyD p c=wyD q d):p=q∧c=d:=by
 simp only[wyD,Prod.mk.injEq,true_and]at h;omega
inductive RchD (S:Nat→List Ar)(N:Nat):Nat→Nat→Prop
 | nil:RchD S N N 0
 | step {q p c w:Nat} (h:RchD S N q c) (e:wyD p w ∈ S q):RchD S N p (c+w)
def StpR (S:Nat→List Ar)(N:Nat):Prop:=∀ q,q≤N→(S q).length≤400∧∀ a ∈ S q,∃ p w:Nat,a=wyD p w∧p<N∧w≤1000000000
structure DijD (S:Nat→List Ar)(N:Nat)(D:Nat→Option Nat)(H:List Ar)(O:Nat→Nat→Prop)(b:Nat):Prop where
 src:D N=some 0
 inn:∀ q c,D q=some c→q≤N
 heap:∀ h ∈ H,∃ p c,h=wyD p c∧p<N∧RchD S N p c∧b≤c∧c≤2000000000
 done:∀ p c,D p=some c→RchD S N p c∧c≤b∧c≤1000000000
 clos:∀ q c,D q=some c→∀ i,i<(S q).length→¬ O q i→∀ p w,el (S q) i=wyD p w→(∃ e,D p=some e∧e≤c+w)∨wyD p (c+w) ∈ H
def srcD (N:Nat):Nat→Option Nat:=fun q=>if q=N then some 0 else none
def updD (D:Nat→Option Nat)(p c:Nat):Nat→Option Nat:=fun q=>if q=p then some c else D q
section
variable {S:Nat→List Ar} {N:Nat} {D:Nat→Option Nat} {H H':List Ar} {b:Nat}
theorem DijD.start :DijD S N (srcD N) [] (fun q i=>q=N∧0≤i) 0:=by
 have h0:∀ {q c},srcD N q=some c→q=N∧c=0:=fun {q c} h=>by
  unfold srcD at h;split at h
  ·rename_i e;injection h with h;exact⟨e,h.symm⟩
  ·cases h
 refine⟨by simp[srcD],fun q c h=>by have:=h0 h;omega,fun h hh=>(by cases hh),fun p c h=>?_,fun q c h i hi hO=>absurd ⟨(h0 h).1,Nat.zero_le _⟩ hO⟩
 obtain⟨rfl,rfl⟩:=h0 h
 exact⟨.nil,Nat.le_refl _,by omega⟩
theorem popD_split {p c q e:Nat}(hp:(wyD p c::H').Perm H)(hq:wyD q e ∈ H):(q=p∧e=c)∨wyD q e ∈ H':=by
 rcases List.mem_cons.1 (hp.mem_iff.2 hq)with g | g
 ·exact .inl (jjcu g)
 ·exact .inr g
theorem DijD.old (h:DijD S N D H (fun _ _=>False) b){p c d:Nat}(hp:(wyD p c::H').Perm H)(hd:D p=some d):DijD S N D H' (fun _ _=>False) b:=by
 obtain⟨p',c',e0,_,_,hbc,_⟩:=h.heap (wyD p c) (hp.mem_iff.1 List.mem_cons_self)
 obtain⟨rfl,rfl⟩:=jjcu e0
 have hdb:=(h.done p d hd).2.1;refine⟨h.src,h.inn,fun a ha=>h.heap a (hp.mem_iff.1 (List.mem_cons_of_mem _ ha)),h.done,fun q e hq i hi hO p' w hw=>?_⟩
 rcases h.clos q e hq i hi hO p' w hw with g | g
 ·exact .inl g
 ·rcases popD_split hp g with⟨rfl,g2⟩ | g
  ·exact .inl ⟨d,hd,by omega⟩
  ·exact .inr g
theorem DijD.new (h:DijD S N D H (fun _ _=>False) b){p c:Nat}(hp:(wyD p c::H').Perm H)(hmin:∀ a ∈ H',(c:Int)≤a.2.2.2)(hd:D p=none)(hc:c≤1000000000):DijD S N (updD D p c) H' (fun q i=>q=p∧0≤i) c:=by
 obtain⟨p',c',e0,hpN,hr,hbc,_⟩:=h.heap (wyD p c) (hp.mem_iff.1 List.mem_cons_self)
 obtain⟨rfl,rfl⟩:=jjcu e0
 have hu:∀ {q e},updD D p c q=some e→(q=p∧e=c)∨(q≠p∧D q=some e):=fun {q e} hq=>by
  unfold updD at hq;split at hq
  ·rename_i g;injection hq with hq;exact .inl ⟨g,hq.symm⟩
  ·rename_i g;exact .inr ⟨g,hq⟩
 refine⟨?_,fun q e hq=>?_,fun a ha=>?_,fun q e hq=>?_,fun q e hq i hi hO p' w hw=>?_⟩
 ·unfold updD;rw[if_neg (by omega)];exact h.src
 ·rcases hu hq with⟨rfl,_⟩ | ⟨_,hq⟩
  ·omega
  ·exact h.inn q e hq
 ·obtain ⟨q,e,rfl,k0,k1,k2,k3⟩:=h.heap a (hp.mem_iff.1 (List.mem_cons_of_mem _ ha))
  have:=hmin _ ha;simp only[wyD]at this;exact⟨q,e,rfl,k0,k1,by omega,k3⟩
 ·rcases hu hq with⟨rfl,rfl⟩ | ⟨_,hq⟩
  ·exact ⟨hr,Nat.le_refl _,hc⟩
  ·obtain ⟨k1,k2,k3⟩:=h.done q e hq
   exact⟨k1,by omega,k3⟩
 ·rcases hu hq with⟨rfl,rfl⟩ | ⟨hne,hq⟩
  ·exact absurd ⟨rfl,Nat.zero_le _⟩ hO
  ·rcases h.clos q e hq i hi id p' w hw with⟨e',g1,g2⟩ | g
   ·refine .inl ⟨e',?_,g2⟩
    unfold updD;rw[if_neg (fun g=>by rw[g,hd]at g1;cases g1)];exact g1
   ·rcases popD_split hp g with⟨rfl,g2⟩ | g
    ·exact .inl ⟨c,by simp[updD],by omega⟩
    ·exact .inr g
theorem DijD.push (hS:StpR S N){p c k:Nat}(h:DijD S N D H (fun q i=>q=p∧k≤i) c)(hpc:D p=some c)(hk:k<(S p).length){p' w:Nat}(hw:el (S p) k=wyD p' w)(hp:H'.Perm (H++[wyD p' (c+w)])):DijD S N D H' (fun q i=>q=p∧k+1≤i) c:=by
 obtain⟨k1,_,k3⟩:=h.done p c hpc
 have hm:wyD p' w ∈ S p:=by rw[← hw];exact jjac hk
 obtain⟨p2,w2,e2,hpN,hwl⟩:=(hS p (h.inn p c hpc)).2 _ hm
 obtain⟨rfl,rfl⟩:=jjcu e2
 have hmem:∀ a,a ∈ H'↔a ∈ H∨a=wyD p' (c+w):=fun a=>by rw[hp.mem_iff,List.mem_append,List.mem_singleton]
 refine⟨h.src,h.inn,fun a ha=>?_,h.done,fun q e hq i hi hO r v hr=>?_⟩
 ·rcases (hmem a).1 ha with g | g
  ·exact h.heap a g
  ·exact ⟨p',c+w,g,hpN,k1.step hm,by omega,by omega⟩
 ·by_cases e1:q=p∧k≤i
  ·obtain ⟨rfl,e2⟩:=e1
   have e3:i=k:=by
    by_cases e4:k+1≤i
    ·exact absurd ⟨rfl,e4⟩ hO
    ·omega
   subst e3;rw[hw]at hr;obtain⟨rfl,rfl⟩:=jjcu hr
   rw[hpc]at hq;injection hq with hq
   subst hq;exact .inr ((hmem _).2 (.inr rfl))
  ·rcases h.clos q e hq i hi e1 r v hr with g | g
   ·exact .inl g
   ·exact .inr ((hmem _).2 (.inl g))
theorem DijD.skip {p c k:Nat}(h:DijD S N D H (fun q i=>q=p∧k≤i) c)(hpc:D p=some c){p' w e:Nat}(hw:el (S p) k=wyD p' w)(he:D p'=some e):DijD S N D H (fun q i=>q=p∧k+1≤i) c:=by
 refine⟨h.src,h.inn,h.heap,h.done,fun q d hq i hi hO r v hr=>?_⟩
 by_cases e1:q=p∧k≤i
 ·obtain ⟨rfl,e2⟩:=e1
  have e3:i=k:=by
   by_cases e4:k+1≤i
   ·exact absurd ⟨rfl,e4⟩ hO
   ·omega
  subst e3;rw[hw]at hr;obtain⟨rfl,rfl⟩:=jjcu hr
  rw[hpc]at hq;injection hq with hq
  have:=(h.done p' e he).2.1;exact .inl ⟨e,he,by omega⟩
 ·exact h.clos q d hq i hi e1 r v hr
theorem DijD.all {p c k:Nat}(h:DijD S N D H (fun q i=>q=p∧k≤i) c)(hk:(S p).length≤k):DijD S N D H (fun _ _=>False) c:=
 ⟨h.src,h.inn,h.heap,h.done,fun q d hq i hi _ r v hr=>h.clos q d hq i hi (fun g=>by rw[g.1]at hi;omega) r v hr⟩
theorem DijD.told (hS:StpR S N)(h:DijD S N D H (fun _ _=>False) b){c:Nat}(hmin:∀ a ∈ H,(c:Int)≤a.2.2.2){p d:Nat}(hr:RchD S N p d):(∃ e,D p=some e∧e≤d)∨c≤d:=by
  induction hr with
  | nil=>exact .inl ⟨0,h.src,Nat.le_refl _⟩
  | step hr e ih=>
    rename_i q p d w
    rcases ih with⟨e1,g1,g2⟩ | g
    · obtain⟨i,hi,hii⟩:=jja1 e
      rcases h.clos q e1 g1 i hi id p w hii with⟨e2,g3,g4⟩ | g3
      · exact .inl ⟨e2,g3,by omega⟩
      · have:=hmin _ g3
        simp only[wyD]at this;exact .inr (by omega)
    · exact .inr (by omega)
def cstD (D:Nat→Option Nat)(q:Nat):Int:=match D q with | some c=>(c:Int) | none=>1000000001
theorem DijD.ans (hS:StpR S N)(h:DijD S N D [] (fun _ _=>False) b){P:Nat→Nat→Prop}(hP:∀ q c,q<N→(P q c↔RchD S N q c)){cs:List Int}(hl:cs.length=N)(hc:∀ q,q<N→el cs q=cstD D q):LstAns P N cs 0:=by
  refine .inl ⟨rfl,hl,fun q hq=>?_⟩
  rw[hc q hq];unfold cstD;cases hd:D q with
  | none=>
    refine .inl ⟨fun c hc=>?_,rfl,rfl⟩
    rcases h.told hS (c:=c+1) (fun a ha=>by cases ha) ((hP q c hq).1 hc)with⟨e,g,_⟩ | g
    · rw[hd]at g;cases g
    · omega
  | some c=>
    obtain⟨k1,_,k3⟩:=h.done q c hd
    refine .inr ⟨c,⟨(hP q c hq).2 k1,fun d hd2=>?_⟩,.inl ⟨k3,rfl,rfl⟩⟩
    rcases h.told hS (c:=d+1) (fun a ha=>by cases ha) ((hP q d hq).1 hd2)with⟨e,g,g2⟩ | g
    · rw[hd]at g;injection g with g;omega
    · omega
theorem DijD.over (hS:StpR S N)(h:DijD S N D H (fun _ _=>False) b){P:Nat→Nat→Prop}(hP:∀ q c,q<N→(P q c↔RchD S N q c)){p c:Nat}(hp:(wyD p c::H').Perm H)(hmin:∀ a ∈ H',(c:Int)≤a.2.2.2)(hd:D p=none)(hc:1000000000<c):LstAns P N [] 4:=by
 obtain⟨p',c',e0,hpN,hr,_,_⟩:=h.heap (wyD p c) (hp.mem_iff.1 List.mem_cons_self)
 obtain⟨rfl,rfl⟩:=jjcu e0
 refine .inr ⟨rfl,rfl,p,hpN,.inr ⟨c,⟨(hP p c hpN).2 hr,fun d hd2=>?_⟩,.inr ⟨hc,rfl,rfl⟩⟩⟩
 have hm:∀ a ∈ H,(c:Int)≤a.2.2.2:=fun a ha=>by
  rcases List.mem_cons.1 (hp.mem_iff.2 ha)with g | g
  ·rw [g];exact Int.le_refl _
  ·exact hmin a g
 rcases h.told hS (c:=c) hm ((hP p d hpN).1 hd2)with⟨e,g,_⟩ | g
 ·rw [hd]at g;cases g
 ·exact g
def DonB (D:Nat→Option Nat)(bs:List Bool)(N:Nat):Prop:=bs.length=N∧∀ q,q<N→el bs q=(D q).isSome
def DonC (D:Nat→Option Nat)(cs:List Int)(N:Nat):Prop:=cs.length=N∧∀ q,q<N→el cs q=cstD D q
theorem DonB.start (N:Nat):DonB (srcD N) (List.replicate N false) N:=
 ⟨by simp,fun q hq=>by rw[el_false];unfold srcD;rw[if_neg (by omega)];rfl⟩
theorem DonC.start (N:Nat){cs:List Int}(hl:cs.length=N)(h:∀ q,q<N→el cs q=1000000001):DonC (srcD N) cs N:=
 ⟨hl,fun q hq=>by rw[h q hq];unfold cstD srcD;rw[if_neg (by omega)]⟩
theorem DonB.put {bs:List Bool}(h:DonB D bs N){p:Nat}(hp:p<N)(c:Nat):DonB (updD D p c) (bs.set p true) N:=by
 refine⟨by rw[List.length_set];exact h.1,fun q hq=>?_⟩
 rw[el_setB (by rw[h.1];exact hp)];unfold updD;split
 ·rfl
 ·exact h.2 q hq
theorem DonC.put {cs:List Int}(h:DonC D cs N){p:Nat}(hp:p<N)(c:Nat):DonC (updD D p c) (cs.set p (c:Int)) N:=by
 refine⟨by rw[List.length_set];exact h.1,fun q hq=>?_⟩
 rw[el_setT (by rw[h.1];exact hp)];unfold cstD updD;split
 ·rfl
 ·exact h.2 q hq
theorem DonB.none {bs:List Bool}(h:DonB D bs N){p:Nat}(hp:p<N)(hf:el bs p=false):D p=none:=by
 have:=h.2 p hp;rw[hf]at this;cases hd:D p with
 | none=>rfl
 | some c=>rw [hd]at this;simp at this
theorem DonB.some {bs:List Bool}(h:DonB D bs N){p:Nat}(hp:p<N)(hf:el bs p=true):∃ c,D p=some c:=by
 have:=h.2 p hp;rw[hf]at this;cases hd:D p with
 | none=>rw [hd]at this;simp at this
 | some c=>exact ⟨c,rfl⟩
end
def putW (t:Nat)(x:Ar)(f:Nat→List Ar):Nat→List Ar:=fun p=>if p=t then f p++[x] else f p
def filA (k:Nat→Ar→Nat × Ar)(q:Nat)(ar:List Ar)(f:Nat→List Ar):Nat→List Ar:=ar.foldl (fun f a=>putW (k q a).1 (k q a).2 f) f
def filS (k:Nat→Ar→Nat × Ar)(l:List St)(n:Nat):Nat→List Ar:=(List.range n).foldl (fun f q=>filA k q (el l q).2 f) (fun _=>[])
def bkK (q:Nat)(a:Ar):Nat × Ar:=(a.2.2.2.toNat,wyD q a.2.2.1.toNat)
variable {k:Nat→Ar→Nat × Ar}
theorem jjfa (l:List St)(n:Nat):filS k l (n+1)=filA k n (el l n).2 (filS k l n):=by
 unfold filS;rw[List.range_succ,List.foldl_append];rfl
theorem filA_take (q:Nat){ar:List Ar}{i:Nat}(h:i<ar.length)(f:Nat→List Ar):filA k q (ar.take (i+1)) f=putW (k q (el ar i)).1 (k q (el ar i)).2 (filA k q (ar.take i) f):=by
 unfold filA;rw[jja0 h,List.foldl_append];rfl
theorem filA_mem {q:Nat}{ar:List Ar}{f:Nat→List Ar}{p:Nat}{x:Ar}:x ∈ filA k q ar f p↔x ∈ f p∨∃ a ∈ ar,k q a=(p,x):=by
  induction ar generalizing f with
  | nil=>simp [filA]
  | cons a ar ih=>
    have:filA k q (a::ar) f=filA k q ar (putW (k q a).1 (k q a).2 f):=rfl;rw[this,ih];unfold putW;by_cases e:p=(k q a).1
    · rw[if_pos e]
      simp only[List.mem_append,List.mem_cons,List.not_mem_nil,or_false];constructor
      · rintro((h | h) | ⟨b,hb,h2⟩)
        · exact .inl h
        · exact .inr ⟨a,.inl rfl,by rw[e,h]⟩
        · exact .inr ⟨b,.inr hb,h2⟩
      · rintro(h | ⟨b,hb | hb,h2⟩)
        · exact .inl (.inl h)
        · exact .inl (.inr (by rw[← hb,h2]))
        · exact .inr ⟨b,hb,h2⟩
    · rw[if_neg e]
      simp only[List.mem_cons];constructor
      · rintro(h | ⟨b,hb,h2⟩)
        · exact .inl h
        · exact .inr ⟨b,.inr hb,h2⟩
      · rintro(h | ⟨b,hb | hb,h2⟩)
        · exact .inl h
        · subst hb;exact absurd (by rw[h2]) e
        · exact .inr ⟨b,hb,h2⟩
theorem filS_mem {l:List St}{n p:Nat}{x:Ar}:x ∈ filS k l n p↔∃ q:Nat,q<n∧∃ a ∈ (el l q).2,k q a=(p,x):=by
  induction n with
  | zero=>simp [filS]
  | succ n ih=>
    rw[jjfa,filA_mem,ih];constructor
    · rintro(⟨q,h2,h3⟩ | h2)
      · exact⟨q,by omega,h3⟩
      · exact⟨n,by omega,h2⟩
    · rintro⟨q,h2,h3⟩
      by_cases e:q=n
      · subst e;exact .inr h3
      · exact .inl ⟨q,by omega,h3⟩
theorem filA_len (q:Nat)(ar:List Ar)(f:Nat→List Ar)(p:Nat):(filA k q ar f p).length≤(f p).length+ar.length:=by
  induction ar generalizing f with
  | nil=>simp [filA]
  | cons a ar ih=>
    have:filA k q (a::ar) f=filA k q ar (putW (k q a).1 (k q a).2 f):=rfl;rw[this]
    have:=ih (f:=putW (k q a).1 (k q a).2 f);unfold putW at this ⊢;simp only[List.length_cons];split at this<;>simp at this ⊢ <;>omega
theorem filS_len (l:List St)(n p:Nat)(hn:n≤l.length):(filS k l n p).length≤arcN (l.take n):=by
  induction n with
  | zero=>simp [filS]
  | succ n ih=>
    rw[jjfa,jjbf (by omega)]
    have:=filA_len (k:=k) n (el l n).2 (filS k l n) p
    have:=ih (by omega);omega
def endW (l:List St)(n:Nat):List Ar:=((List.range n).filter fun q=>decide ((el l q).1≠1000000001)).map fun q=>wyD q (el l q).1.toNat
theorem endW_succ (l:List St)(n:Nat):endW l (n+1)=endW l n++(if(el l n).1≠1000000001 then[wyD n (el l n).1.toNat] else[]):=by
 unfold endW;rw[List.range_succ,List.filter_append,List.map_append];by_cases h:(el l n).1=1000000001<;>simp [h]
theorem endW_le (l:List St)(n:Nat):(endW l n).length≤n:=by
 unfold endW;rw[List.length_map];exact Nat.le_trans (List.length_filter_le _ _) (by simp)
theorem endW_mem {l:List St}{n:Nat}{x:Ar}:x ∈ endW l n↔∃ q:Nat,x=wyD q (el l q).1.toNat∧q<n∧(el l q).1≠1000000001:=by
 unfold endW;simp only[List.mem_map,List.mem_filter,List.mem_range,decide_eq_true_eq];constructor
 ·rintro ⟨q,⟨h1,h2⟩,rfl⟩;exact⟨q,rfl,h1,h2⟩
 ·rintro ⟨q,rfl,h1,h2⟩;exact⟨q,⟨h1,h2⟩,rfl⟩
def stpW (F:List Ar)(f:Nat→List Ar)(N:Nat):Nat→List Ar:=fun q=>if q=N then F else f q
theorem jjex (F:List Ar)(f:Nat→List Ar)(N:Nat):stpW F f N N=F:=if_pos rfl
theorem stpW_at {F:List Ar}{f:Nat→List Ar}{N q:Nat}(h:q<N):stpW F f N q=f q:=if_neg (by omega)
theorem jjfb {m:Mc}(h:faultM m=0){q:Nat}{a:Ar}(ha:a ∈ (el m.2 q).2):∃ p w:Nat,a.2.2.2=(p:Int)∧a.2.2.1=(w:Int)∧p<m.2.length∧w≤1000000000:=by
 have h1:=(jjag h).2 _ (jjac (el_in ha));simp only[stB,Bool.and_eq_true,List.all_eq_true]at h1;have h2:=h1.2 _ ha;simp only[arcB,inB,Bool.and_eq_true,decide_eq_true_eq]at h2;exact⟨a.2.2.2.toNat,a.2.2.1.toNat,by omega,by omega,by omega,by omega⟩
theorem fil_len {m:Mc}(h:faultM m=0)(p:Nat):(filS k m.2 m.2.length p).length≤400:=by
 have h1:=filS_len (k:=k) m.2 m.2.length p (Nat.le_refl _);rw[List.take_length]at h1;have h2:=(jjae (z:=m.1) (l:=m.2) h).2;omega
theorem stpE_right {m:Mc}(h:faultM m=0):StpR (stpW (endW m.2 m.2.length) (filS bkK m.2 m.2.length) m.2.length) m.2.length:=by
 have h60:=(jjae (z:=m.1) (l:=m.2) h).1;intro q hq;by_cases e:q=m.2.length
 ·subst e
  rw[jjex];refine⟨by have:=endW_le m.2 m.2.length;omega,fun a ha=>?_⟩
  obtain⟨q,rfl,hq,hf⟩:=endW_mem.1 ha
  have:=jjcf h hq hf;exact⟨q,(el m.2 q).1.toNat,rfl,hq,by omega⟩
 ·rw [stpW_at (by omega)]
  refine⟨fil_len h q,fun a ha=>?_⟩
  obtain⟨q',hq',b,hb,hk⟩:=filS_mem.1 ha
  obtain⟨p,w,e1,e2,e3,e4⟩:=jjfb h hb
  simp only[bkK,Prod.mk.injEq]at hk;refine⟨q',w,?_,hq',e4⟩
  rw[← hk.2,e2];rfl
theorem end_rch {m:Mc}(h:faultM m=0)(q c:Nat)(hq:q<m.2.length):EndC m.2 q c↔RchD (stpW (endW m.2 m.2.length) (filS bkK m.2 m.2.length) m.2.length) m.2.length q c:=by
  constructor
  · rintro⟨n,p,d,hr,hp,hf,rfl⟩
    have key:∀ n q d,q<m.2.length→Run (ArcE m.2) q n p d→RchD (stpW (endW m.2 m.2.length) (filS bkK m.2 m.2.length) m.2.length) m.2.length q (d+(el m.2 p).1.toNat):=by
      intro n;induction n with
      | zero=>
        intro q d hq hr;cases hr
        exact RchD.step .nil (by rw[jjex];exact endW_mem.2 ⟨p,rfl,hp,hf⟩)
      | succ n ih=>
        intro q d hq hr;obtain⟨j,w,c',e,hr',rfl⟩:=hr.head
        have hj:=(jjeh h e).1;obtain⟨a,ha,e1,e2⟩:=e
        have h1:=RchD.step (w:=w) (p:=q) (ih j c' hj hr') (by
          rw[stpW_at hj]
          refine filS_mem.2 ⟨q,hq,a,ha,?_⟩
          simp only[bkK,e1,e2,Int.toNat_natCast])
        rw[show w+c'+(el m.2 p).1.toNat=c'+(el m.2 p).1.toNat+w by omega];exact h1
    exact key n q d hq hr
  · intro hr
    have key:∀ q c,RchD (stpW (endW m.2 m.2.length) (filS bkK m.2 m.2.length) m.2.length) m.2.length q c→(q=m.2.length∧c=0)∨(q<m.2.length∧EndC m.2 q c):=by
      intro q c hr;induction hr with
      | nil=>exact .inl ⟨rfl,rfl⟩
      | step hr e ih=>
        rename_i q p c w
        rcases ih with⟨rfl,rfl⟩ | ⟨hq,n,p0,d,hn,hp0,hf,rfl⟩
        · rw[jjex]at e
          obtain⟨q,e,hq,hf⟩:=endW_mem.1 e
          obtain⟨rfl,rfl⟩:=jjcu e
          exact .inr ⟨hq,0,p,0,.nil,hq,hf,rfl⟩
        · rw[stpW_at hq]at e
          obtain⟨q',hq',a,ha,hk⟩:=filS_mem.1 e
          obtain⟨p',w',e1,e2,e3,e4⟩:=jjfb h ha
          simp only[bkK,e1,e2,Int.toNat_natCast,Prod.mk.injEq]at hk;obtain⟨rfl,hk⟩:=hk
          obtain⟨rfl,rfl⟩:=jjcu hk
          exact .inr ⟨hq',n+1,p0,w'+d,Run.first ⟨a,ha,e1,by rw[e2,Int.toNat_natCast]⟩ hn,hp0,hf,by omega⟩
    rcases key q c hr with⟨rfl,_⟩ | ⟨_,h1⟩
    · omega
    · exact h1
end Go.Proofs.YtppkiejhhmahcaaGreatDoor.Pl
