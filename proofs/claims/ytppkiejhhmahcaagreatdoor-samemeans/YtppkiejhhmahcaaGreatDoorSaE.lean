/- Facts, joined. -/
import Derived.Test.YtppkiejhhmahcaaGreatDoorSaD
import Derived.Deep.RegionWith
set_option linter.unusedSimpArgs false
set_option linter.unusedVariables false
set_option maxHeartbeats 12800000
set_option maxRecDepth 100000
namespace Go.Proofs.YtppkiejhhmahcaaGreatDoor.Wt
open ChangeShapes WideShapes ChangeAt RowKit Pl
theorem bits_bad (v:Value)(m:Mc)(w:World)(h:Mach w v m)(hok:okM m)(r:Int)(hr:faultM m=r)(hr0:¬ r=0):
  Calls Tryz.prog 49 #[v] w fun e w'=>e= .returned (.tuple #[.agg #[.bool false,.bool false,.bool false,.bool false,.bool false],.int .i64 r])∧Below w.heap.size w w':=by
 obtain⟨z,l⟩:=m
 obtain⟨vs,rfl,hS⟩:=h
 obtain⟨a,cap,rfl⟩:=hS.sl
 have HM:Hid (Mach w (.agg #[.int .i64 z,.slice a l.length cap]) (z,l)):=⟨_,rfl,hS⟩
 have HK:Hid (okM (z,l)):=hok;have HR:Hid (faultM (z,l)=r):=hr;have hne:(r !=0)=true:=by simpa using hr0
 have hl:=hok.1;simp only at hl ⊢;clear hS hok hr;go_enter Tryz.func49,Tryz.ntmps49;go_wp2_with (first
   | (go_at_call 45;(with_reducible refine(jjal _ (z,l) _ (HM.out.later (B:=w.heap.size) (by go_grown) (Nat.le_refl _)) HK.out _ HR.out).mono ?_);rintro e w1 ⟨rfl,hb⟩;obtain⟨s1,k0,k1,hb1⟩:=boxed2 hb (by simp);have HB1:Hid (Below w.heap.size w w1):=hb1;have e0:=k1.cell 0 (v:= .bool false) rfl;have e1:=k1.cell 1 (v:= .bool false) rfl;have e2:=k1.cell 2 (v:= .bool false) rfl;have e3:=k1.cell 3 (v:= .bool false) rfl;have e4:=k1.cell 4 (v:= .bool false) rfl;have f0:=k1.fz 0;have f1:=k1.fz 1;have f2:=k1.fz 2;have f3:=k1.fz 3;have f4:=k1.fz 4;clear hb hb1 k0 k1))
 exact bodyPost_ret (v:= .tuple #[.agg #[.bool false,.bool false,.bool false,.bool false,.bool false],.int .i64 r]) (by simp[results,Tryz.results49,go_sem, *]) rfl ⟨rfl,by (have h:=HB1.out);go_grown⟩
def PshRes (Q:Mc→Int→Int→Prop)(w:World)(e:Ending)(w':World):Prop:=∃ v x,∃ t ec:Int,e= .returned (.tuple #[v,.int .i64 t,.int .i64 ec])∧Q x t ec∧Mach w' v x∧Below w.heap.size w w'
def StyM (w:World)(B:Nat)(v:Value)(x:Mc):Prop:=(x.2=[]∧Mach w v x)∨∃ vs,v= .agg #[.int .i64 x.1,vs]∧OwnSts w B vs x.2
theorem StyM.mach {w:World}{B:Nat}{v:Value}{x:Mc}(h:StyM w B v x):Mach w v x:=by
 rcases h with⟨_,h⟩ | ⟨vs,rfl,h⟩
 ·exact h
 ·exact ⟨_,rfl,h.sts⟩
theorem mach_nilP {w w':World}{v:Value}{x:Mc}(h:Mach w v x)(h0:x.2=[]):Mach w' v x:=by
 obtain⟨vs,h1,us,h2,h3,h4⟩:=h
 have hl:us.length=0:=by rw[h3,h0];rfl
 refine⟨vs,h1,us,?_,h3,fun j hj=>absurd hj (by rw[h0];simp)⟩
 rcases h2 with h2 | ⟨y,cap,hv,hc⟩
 ·exact .inl h2
 ·exact .inr ⟨y,cap,hv,fun j hj=>absurd hj (by omega)⟩
theorem StyM.store {w:World}{B R:Nat}{v:Value}{x:Mc}{x0 x1:Value}(h:StyM w B v x)(hR:Blk w R #[x0,x1] 24)(a b:Value):StyM ((w.setCell ⟨R,0,none⟩ a).setCell ⟨R,1,none⟩ b) B v x:=by
 rcases h with⟨h0,h⟩ | ⟨vs,rfl,h⟩
 ·exact .inl ⟨h0,mach_nilP h h0⟩
 ·exact .inr ⟨vs,rfl,(h.setM hR 0 a).setM (hR.set 0 a) 1 b⟩
theorem StyM.mono {w:World}{B B':Nat}{v:Value}{x:Mc}(h:StyM w B v x)(hb:B'≤B):StyM w B' v x:=by
 rcases h with h | ⟨vs,rfl,h⟩
 ·exact .inl h
 ·exact .inr ⟨vs,rfl,h.monoB hb⟩
def RatOwn (x:Mc)(ec:Int)(w:World)(e:Ending)(w':World):Prop:=∃ v,e= .returned (.tuple #[v,.int .i64 ec])∧StyM w' w.heap.size v x∧Below w.heap.size w w'
theorem RatOwn.res {x:Mc}{ec:Int}{w w':World}{e:Ending}(h:RatOwn x ec w e w'):RatRes x ec w e w':=by
 obtain⟨v,he,hs,hb⟩:=h
 exact⟨v,he,hs.mach,hb⟩
def PshOwn (Q:Mc→Int→Int→Prop)(w:World)(e:Ending)(w':World):Prop:=∃ v x,∃ t ec:Int,e= .returned (.tuple #[v,.int .i64 t,.int .i64 ec])∧Q x t ec∧StyM w' w.heap.size v x∧Below w.heap.size w w'
theorem PshOwn.res {Q:Mc→Int→Int→Prop}{w w':World}{e:Ending}(h:PshOwn Q w e w'):PshRes Q w e w':=by
 obtain⟨v,x,t,ec,he,hq,hs,hb⟩:=h
 exact⟨v,x,t,ec,he,hq,hs.mach,hb⟩
open Maps
theorem res_mkC (tm:Array Value)(W:World)(R:Nat)(ec:Int)(x0 x1:Value)(hB:Blk W R #[x0,x1] 24)(h2:tm.getD 2 undef= .pointer (some ⟨R,0,none⟩))(h3:tm.getD 3 undef= .int .i64 ec):(results Tryz.f22 tm).run Tryz.prog W= .ok (.tuple #[.agg #[x0,x1],.int .i64 ec]) W:=by
 have c0:=hB.cell 0 (v:=x0) rfl;have c1:=hB.cell 1 (v:=x1) rfl;simp only[Array.getD_eq_getD_getElem?]at h2 h3;simp[results,Tryz.results22,go_sem,h2,h3,c0,c1]
theorem full_empC (l:List St):l.all (fun s=>s.2.all fullA)= !empB l:=by
 unfold empB;rw[Bool.eq_iff_iff];simp only[List.all_eq_true,Bool.not_eq_true',List.any_eq_false,Bool.not_eq_true,fullA]
theorem certP_bad (v:Value)(m:Mc)(w:World)(h:Mach w v m)(hok:okM m)(r:Int)(hr:faultM m=r)(h0:¬ r=0):
  Calls Tryz.prog 22 #[v] w fun e w'=>RatOwn (0,[]) r w e w':=by
 have HLK:=hidP (fun W (hW:Below w.heap.size w W)=>bits_bad v m W (h.later hW (Nat.le_refl _)) hok r hr h0);obtain⟨vs,rfl,hS⟩:=h
 obtain⟨a,cap,rfl⟩:=hS.sl
 have hrn:(r !=0)=true:=by simpa using h0
 clear hS hok hr h0;generalize m.2.length=n at *;generalize m.1=z at *;go_enter Tryz.func22,Tryz.ntmps22;go_wp2_with (first
  | (go_at_call 49;(with_reducible refine(HLK.out _ (by go_grown)).mono ?_);rintro e w1 ⟨rfl,hb⟩;obtain⟨s1,k0,k1,hb1⟩:=boxedTwo hb (by simp);have HB1:=hidP hb1;have K1:=hidP k1;have e0:=k1.cell 0 (v:= .int .i64 0) rfl;have e1:=k1.cell 1 (v:= .slice none 0 0) rfl;have g0:=k1.fz 0;have g1:=k1.fz 1;have l1:=k1.lt;clear hb hb1 k0 k1 HLK))
 exact bodyPost_ret (res_mkC _ _ (w.heap.size+1) r _ _ (((K1.out.set 0 (.int .i64 0)).set 1 (.slice none 0 0)).alloc _) rfl rfl) rfl ⟨_,rfl,.inl ⟨rfl,jja5 _⟩,((HB1.out.setCell (p:=⟨w.heap.size+1,0,none⟩) (by show w.heap.size≤w.heap.size+1;omega) _).setCell (p:=⟨w.heap.size+1,1,none⟩) (by show w.heap.size≤w.heap.size+1;omega) _).alloc (by simp[World.setCell];omega) _⟩
theorem certP_emp (z:Int)(a:Option Addr)(cap:Nat)(l:List St)(w:World)(hM:Mach w (.agg #[.int .i64 z,.slice a l.length cap]) (z,l))(hok:okM (z,l))(hr:faultM (z,l)=0)(he:empB l=true∨(empB l=false∧z<0)):
  Calls Tryz.prog 22 #[.agg #[.int .i64 z,.slice a l.length cap]] w fun e w'=>RatOwn (if empB l=true then(0,[]) else(-1,[])) (if empB l=true then 7 else 0) w e w':=by
 have HLK:=hidP (fun W (hW:Below w.heap.size w W)=>bits_ok z a cap l W (hM.later hW (Nat.le_refl _)) hok hr _ _ _ _ _ _ rfl (full_empC l) rfl rfl rfl rfl);have hz1: -1≤z:=(jjag hr).1.1;generalize l.all (fun s=>s.2.all accA)=b1 at *;generalize l.all (fun s=>onceB s.2)=b3 at *;generalize l.all (fun s=>sortB s.2)=b4 at *;generalize (l.all (fun s=>s.2.all freeA)&&l.all freeS)=b5 at *;clear hM hok hr
 generalize l.length=n at *;have HNO:Hid (∀ W:World,Mach W (.agg #[.int .i64 (-1),.slice none 0 0]) (-1,[])):=fun W=>⟨_,rfl,(OwnSts.nil W 0).sts⟩
 have hnot:∀ (x:Bool) (w:World),(Op.unary .not (.bool x)).run Tryz.prog w= .ok (.bool (!x)) w:=fun _ _=>rfl
 rcases he with he | ⟨he,hz⟩
 ·rw [he]at HLK
  rw[if_pos he,if_pos he];simp only[Bool.not_true,Bool.false_and]at HLK;clear he;go_enter Tryz.func22,Tryz.ntmps22;go_wp2_with (first
   | (go_at_call 49;(with_reducible refine(HLK.out _ (by go_grown)).mono ?_);rintro e w1 ⟨rfl,hb⟩;obtain⟨s1,k0,k1,hb1⟩:=boxedTwo hb (by simp);have HB1:=hidP hb1;have K1:=hidP k1;have e0:=k1.cell 0 (v:= .int .i64 0) rfl;have e1:=k1.cell 1 (v:= .slice none 0 0) rfl;have g0:=k1.fz 0;have g1:=k1.fz 1;have l1:=k1.lt;clear hb hb1 k0 k1 HLK))
  exact bodyPost_ret (res_mkC _ _ (w.heap.size+1) 7 _ _ (((K1.out.set 0 (.int .i64 0)).set 1 (.slice none 0 0)).alloc _) rfl rfl) rfl ⟨_,rfl,.inl ⟨rfl,jja5 _⟩,((HB1.out.setCell (p:=⟨w.heap.size+1,0,none⟩) (by show w.heap.size≤w.heap.size+1;omega) _).setCell (p:=⟨w.heap.size+1,1,none⟩) (by show w.heap.size≤w.heap.size+1;omega) _).alloc (by simp[World.setCell];omega) _⟩
 ·rw [he]at HLK
  rw[if_neg (by rw[he];simp),if_neg (by rw[he];simp)];simp only[Bool.not_false,Bool.true_and]at HLK;obtain rfl:z= -1:=by omega
  clear he hz hz1;go_enter Tryz.func22,Tryz.ntmps22;go_wp2_with (first
   | (go_at_call 49;(with_reducible refine(HLK.out _ (by go_grown)).mono ?_);rintro e w1 ⟨rfl,hb⟩;obtain⟨s1,k0,k1,hb1⟩:=boxedTwo hb (by simp);have HB1:=hidP hb1;have K1:=hidP k1;have c0:=k0.cell 0 (v:= .int .i64 (-1)) rfl;have l0:=k0.lt;have e0:=k1.cell 0 (v:= .int .i64 0) rfl;have e1:=k1.cell 1 (v:= .slice none 0 0) rfl;have g0:=k1.fz 0;have g1:=k1.fz 1;have l1:=k1.lt;clear hb hb1 k0 k1 HLK))
  exact bodyPost_ret (res_mkC _ _ (w.heap.size+1) 0 _ _ (((K1.out.set 0 (.int .i64 (-1))).set 1 (.slice none 0 0)).alloc _) rfl rfl) rfl ⟨_,rfl,.inl ⟨rfl,HNO.out _⟩,((HB1.out.setCell (p:=⟨w.heap.size+1,0,none⟩) (by show w.heap.size≤w.heap.size+1;omega) _).setCell (p:=⟨w.heap.size+1,1,none⟩) (by show w.heap.size≤w.heap.size+1;omega) _).alloc (by simp[World.setCell];omega) _⟩
structure CerM (w wr:World)(C mb:Nat)(vt vs:Value)(ca:Array Value)(L:List (List Pa))(S:List St)(n:Int):Prop where
 bxA:Blk wr w.heap.size ca 24
 bxR:Blk wr (w.heap.size+1) #[.int .i64 0,.slice none 0 0] 24
 mak:MakN wr (w.heap.size+2) C mb vt vs L n
 sts:OwnSts wr (w.heap.size+2) vs S
 below:Below w.heap.size w wr
 size:w.heap.size+2≤wr.heap.size
theorem CerM.next {w wr w':World}{C mb:Nat}{vt vs vt' vs':Value}{ca:Array Value}{L L':List (List Pa)}{S S':List St}{n n':Int}(h:CerM w wr C mb vt vs ca L S n)(hb:Below (w.heap.size+2) wr w')(hc:MakN w' (w.heap.size+2) C mb vt' vs' L' n')(hs:OwnSts w' (w.heap.size+2) vs' S'):CerM w w' C mb vt' vs' ca L' S' n':=
 ⟨h.bxA.below hb (by omega),h.bxR.below hb (by omega),hc,hs,h.below.trans (hb.mono (by omega)),Nat.le_trans h.size hb.size⟩
theorem add_ans {W W':World}{base b mb:Nat}{l:List St}{nz z q n:Nat}{L:List (List Int)}{S:List St}{ec:Int}(hI:NumI (finC l) (hopsC l) (iniS nz z) q L S n)(hq:q<L.length)(h:AddAns W base b mb l (el L q) L S n ec W'):
  (ec≠0∧numA (finC l) (hopsC l) (iniS nz z)=((0,[]),ec))∨(ec=0∧∃ L' S' n' vt vs,NumI (finC l) (hopsC l) (iniS nz z) (q+1) L' S' n'∧MakN W' base b mb vt vs (L'.map parL) ((n':Nat):Int)∧OwnSts W' base vs S'):=by
 rcases h with⟨h1,h2⟩ | ⟨h1,⟨h2,i,hi,hf,ho⟩ | ⟨h2,i,hi,hf,ho,hx⟩ | ⟨h2,hf,vt,vs,hm,hs⟩⟩
 ·left
  rw[h2];exact⟨h1,hI.err hq h1⟩
 ·left
  rw[h2];exact⟨by omega,hI.over hq h1 hi hf ho⟩
 ·left
  rw[h2];exact⟨by omega,hI.full hq h1 hi hf ho hx⟩
 ·right
  exact⟨h2,_,_,_,vt,vs,hI.next hq h1 hf,hm,hs⟩
theorem certP_ok (z:Int)(a:Option Addr)(cap:Nat)(l:List St)(w:World)(hM:Mach w (.agg #[.int .i64 z,.slice a l.length cap]) (z,l))(hok:okM (z,l))(hr:faultM (z,l)=0)(he:empB l=false)(hz:0≤z)(ht:Tab w):
  Calls Tryz.prog 22 #[.agg #[.int .i64 z,.slice a l.length cap]] w fun e w'=>RatOwn (cerA (z,l)).1 (cerA (z,l)).2 w e w':=by
 have HLK:=hidP (fun W (hW:Below w.heap.size w W)=>bits_ok z a cap l W (hM.later hW (Nat.le_refl _)) hok hr _ _ _ _ _ _ rfl (full_empC l) rfl rfl rfl rfl);rw[he]at HLK;simp only[Bool.not_false,Bool.true_and]at HLK;obtain⟨zn,rfl⟩:∃ zn:Nat,z=(zn:Int):=⟨z.toNat,by omega⟩
 have hzl:zn<l.length:=by have:=(jjag hr).1;simp only at this;omega
 have h60:=(jjae hr).1;have HAN:Hid (cerA ((zn:Int),l)=numA (finC l) (hopsC l) (iniS l.length zn)):=by
  show _=_;unfold cerA;rw[if_neg (fun g=>g hr),he,if_neg (by decide),if_neg (by simp)];simp
 have HSET:Hid (∀ q L S nn,NumI (finC l) (hopsC l) (iniS l.length zn) q L S nn→∀ R ∈ L,SetN l.length 60000000000 R):=fun q L S nn h R hR=>jjem (m:=((zn:Int),l)) hr hzl h.exp hR
 have HI0:=hidP (NumI.init (finC l) (hopsC l) (iniS l.length zn));have HPI:Hid ([iniS l.length zn].map parL=[[((zn:Int),0)]]):=by show _=_;rw[List.map_singleton,parL_ini hzl]
 generalize l.all (fun s=>s.2.all accA)=b1 at *;generalize l.all (fun s=>onceB s.2)=b3 at *;generalize l.all (fun s=>sortB s.2)=b4 at *;generalize (l.all (fun s=>s.2.all freeA)&&l.all freeS)=b5 at *;obtain⟨X,hX⟩:∃ X,cerA ((zn:Int),l)=X:=⟨_,rfl⟩
 rw[hX];have HX:Hid (numA (finC l) (hopsC l) (iniS l.length zn)=X):=HAN.out.symm.trans hX;have HM:=hidP hM;have HTB:=hidP ht;have HR:=hidP hr;have hz1:((zn:Int)== -1)=false:=by simp
 clear hX HAN hM hok hr he hz ht;obtain⟨nl,hnl⟩:∃ nl,l.length=nl:=⟨_,rfl⟩
 rw[hnl]at HLK HM HX HI0 HPI HSET hzl h60 ⊢;have HNL:=hidP hnl;clear hnl;have hnot:∀ (x:Bool) (w:World),(Op.unary .not (.bool x)).run Tryz.prog w= .ok (.bool (!x)) w:=fun _ _=>rfl
 go_enter Tryz.func22,Tryz.ntmps22;go_upto_region 9 with(first
  | (go_at_call 49;(with_reducible refine(HLK.out _ (by go_grown)).mono ?_);rintro e w1 ⟨rfl,hb⟩;obtain⟨s1,k0,k1,hb1⟩:=boxedTwo hb (by simp);have HB1:=hidP hb1;have K0:=hidP k0;have K1:=hidP k1;have c0:=k0.cell 0 (v:= .int .i64 (zn:Int)) rfl;have l0:=k0.lt;clear hb hb1 k0 k1 HLK))
 have hsz:((w1.alloc (.cells #[.bool b1,.bool true,.bool b3,.bool b4,.bool b5] 83)).alloc (.cells #[.map none,.slice none 0 0,.slice none 0 0,.int .i64 0] 89)).heap.size=w1.heap.size+1+1:=by simp
 have B2:=hidP ((HB1.out.alloc HB1.out.size (.cells #[.bool b1,.bool true,.bool b3,.bool b4,.bool b5] 83)).alloc (by simp;omega) (.cells #[.map none,.slice none 0 0,.slice none 0 0,.int .i64 0] 89));have K02:=hidP ((K0.out.alloc (.cells #[.bool b1,.bool true,.bool b3,.bool b4,.bool b5] 83)).alloc (.cells #[.map none,.slice none 0 0,.slice none 0 0,.int .i64 0] 89))
 have K12:=hidP ((K1.out.alloc (.cells #[.bool b1,.bool true,.bool b3,.bool b4,.bool b5] 83)).alloc (.cells #[.map none,.slice none 0 0,.slice none 0 0,.int .i64 0] 89))
 have KC:Hid (Blk ((w1.alloc (.cells #[.bool b1,.bool true,.bool b3,.bool b4,.bool b5] 83)).alloc (.cells #[.map none,.slice none 0 0,.slice none 0 0,.int .i64 0] 89)) (w1.heap.size+1) #[.map none,.slice none 0 0,.slice none 0 0,.int .i64 0] 89):=by
  have h9:=Blk.made (w1.alloc (.cells #[.bool b1,.bool true,.bool b3,.bool b4,.bool b5] 83)) #[.map none,.slice none 0 0,.slice none 0 0,.int .i64 0] 89;rw[World.size_alloc]at h9;exact h9
 clear c0 K0 K1 HB1;generalize (w1.alloc (.cells #[.bool b1,.bool true,.bool b3,.bool b4,.bool b5] 83)).alloc (.cells #[.map none,.slice none 0 0,.slice none 0 0,.int .i64 0] 89)=w2 at *;obtain⟨C,hC⟩:∃ C,C=w1.heap.size+1:=⟨_,rfl⟩
 rw[← hC]at KC hsz ⊢;have hCge:w.heap.size+2≤C:=by omega
 have hw2:w.heap.size+2≤w2.heap.size:=by omega
 have c0:=K02.out.cell 0 (v:= .int .i64 (zn:Int)) rfl;have HBG:=hidP (makBegin_any w (w2.alloc (.cells #[.int .i64 (zn:Int),.int .i64 0] 92)) (w.heap.size+2) C (some ⟨w2.heap.size,0,none⟩) 1 1 (zn:Int) (KC.out.alloc _) hCge (OwnP.one w2 ((zn:Int),0) hw2) ⟨by omega,by omega⟩ HTB.out (B2.out.alloc B2.out.size _) (by omega));clear hsz hC s1 l0;go_wp2_with (first
  | (go_at_call 50;(with_reducible refine HBG.out.mono ?_);rintro e w3 ⟨rfl,hb3,mb,vt,hc3⟩;have M3:Hid (CerM w w3 C mb vt (.slice none 0 0) #[.int .i64 (zn:Int),.slice a nl cap] ([iniS nl zn].map parL) [] ((0:Nat):Int)):=(⟨(K02.out.alloc _).below hb3 (by omega),(K12.out.alloc _).below hb3 (by omega),(by rw[HPI.out];exact hc3),OwnSts.nil _ _,(B2.out.alloc B2.out.size _).trans (hb3.mono (by omega)),Nat.le_trans hw2 (Nat.le_trans ((Below.refl w2.heap.size w2).alloc (Nat.le_refl _) (.cells #[.int .i64 (zn:Int),.int .i64 0] 92)).size hb3.size)⟩);clear hb3 hc3 HBG))
 clear c0 K02 K12 KC B2;go_loopw [7] (fun i wr=>∃ (q n:Nat) (L:List (List Int)) (S:List St) (vt vs:Value),i= .int .i64 (q:Int)∧Hid (NumI (finC l) (hopsC l) (iniS nl zn) q L S n)∧Hid (CerM w wr C mb vt vs #[.int .i64 (zn:Int),.slice a nl cap] (L.map parL) S (n:Int))) (fun i _=>61-(intOf i).toNat)
 case atStart=>exact ⟨0,0,[iniS nl zn],[],vt,_,rfl,HI0,M3⟩
 case round=>
  clear M3 HI0;obtain⟨q,n,L,S,vt5,vs5,rfl,hI,hM⟩:=hrel
  obtain⟨w5,hw5⟩:∃ w5,w5=wr:=⟨_,rfl⟩
  subst hw5;have hl60:=hI.out.l60;have hqL:=hI.out.le;have hn4:=hI.out.n4;obtain⟨at5,ct5,hat⟩:=hM.out.mak.trs.sl
  rw[List.length_map]at hat;subst hat;have e1:=hM.out.mak.blk.cell 1 (v:= .slice at5 L.length ct5) rfl;by_cases hlt:q<L.length
  ·have q0:(0:Int)≤(q:Int):=by omega
   have q1:(q:Int)<(L.length:Int):=by omega
   obtain⟨G,bs,cs,hG,hGl,g0,hPq⟩:=hM.out.mak.trs.get (q:=q) (by rw[List.length_map];exact hlt)
   subst hG;rw[jja2 hlt]at g0 hPq;have hSl:S.length≤1000:=by rw[hI.out.len];omega
   have HADD:=hidP (fun W' (hW:Below w5.heap.size w5 W')=>makAdd_any w W' (w.heap.size+2) C mb _ vs5 (zn:Int) a nl cap l (el L q) L S n bs _ cs (hM.out.mak.later hW) (hM.out.sts.laterB hW) (hPq.later hW) HM.out HR.out HTB.out (hM.out.below.trans (hW.mono hM.out.below.size)) (by omega) (by rw[HNL.out];exact HSET.out q L S n hI.out _ (jjac hlt)) (by rw[HNL.out];exact HSET.out q L S n hI.out) hI.out.nodup hl60 hn4 hSl (Nat.le_trans hM.out.size hW.size))
   have HANS:=hidP (fun W W' ec (h:AddAns W (w.heap.size+2) C mb l (el L q) L S n ec W')=>add_ans hI.out hlt h);have b0:=hM.out.bxA.cell 0 (v:= .int .i64 (zn:Int)) rfl;have b1':=hM.out.bxA.cell 1 (v:= .slice a nl cap) rfl;obtain⟨nT,hnT⟩:∃ nT,(parL (el L q)).length=nT:=⟨_,rfl⟩
   rw[hnT]at g0 HADD;obtain⟨nL,hnL⟩:∃ nL,L.length=nL:=⟨_,rfl⟩
   rw[hnL]at e1 q1 hl60 hqL hlt;clear hnT hnL hPq;go_upto_region 13 with fail
   go_cut [8] (fun s8 wx=>∃ ec:Int,s8= .int .i64 ec∧Hid (Below (w.heap.size+2) w5 wx)∧Hid ((ec≠0∧numA (finC l) (hopsC l) (iniS nl zn)=((0,[]),ec))∨(ec=0∧∃ L' S' n' vt vs,NumI (finC l) (hopsC l) (iniS nl zn) (q+1) L' S' n'∧MakN wx (w.heap.size+2) C mb vt vs (L'.map parL) ((n':Nat):Int)∧OwnSts wx (w.heap.size+2) vs S')))
   case first=>
    have hDr:=hidP (Below.refl w5.heap.size w5).drew;clear hI hM HX HSET HM HR HTB HNL HPI;go_region_with (first
     | (go_at_call 51;(with_reducible refine(HADD.out _ hDr.out).mono ?_);rintro e w6 ⟨ec,rfl,hb6,ha6⟩;have B6:Hid (Below (w.heap.size+2) w5 w6):=(⟨hb6.os,hb6.tape,hb6.output,hb6.size,hb6.block⟩);have A6:=hidP (HANS.out _ _ _ ha6);clear hb6 ha6 HADD HANS))
    all_goals go_simp
    all_goals go_wp2
    all_goals go_meet
    all_goals exact⟨ec,rfl,B6,A6⟩
   case rest=>
    obtain⟨ec,rfl,B6,A6⟩:=hcut
    obtain⟨w6,hw6⟩:∃ w6,w6=wc:=⟨_,rfl⟩
    subst hw6;clear HADD HANS e1 b0 b1' g0;by_cases hec:ec=0
    ·subst hec
     obtain⟨L',S',n',vt',vs',hN',hK',hO'⟩:∃ L' S' n' vt vs,NumI (finC l) (hopsC l) (iniS nl zn) (q+1) L' S' n'∧MakN w6 (w.heap.size+2) C mb vt vs (L'.map parL) ((n':Nat):Int)∧OwnSts w6 (w.heap.size+2) vs S':=by
      rcases A6.out with⟨g,_⟩ | ⟨_,g⟩
      ·exact absurd rfl g
      ·exact g
     have N6:=hidP hN';have M6:=hidP (hM.out.next B6.out hK' hO');clear hN' hK' hO' A6;go_wp2;go_roundw
     case rel=>exact ⟨q+1,n',L',S',vt',vs',by go_num,N6,M6⟩
     case measure=>simp [intOf];omega
    ·have hne:(ec !=0)=true:=by simpa using hec
     have HXE:Hid (X=((0,[]),ec)):=by
      rcases A6.out with⟨_,g⟩ | ⟨g,_⟩
      ·exact HX.out.symm.trans g
      ·exact absurd g hec
     have hb6:=B6.out;have R6:=hidP (hM.out.bxR.below hb6 (by omega));have W6:=hidP (hM.out.below.trans (hb6.mono (by omega)));have r0:=R6.out.cell 0 (v:= .int .i64 0) rfl;have r1:=R6.out.cell 1 (v:= .slice none 0 0) rfl;have g0:=R6.out.fz 0;have g1:=R6.out.fz 1;clear A6 hb6 hec;repeat (first | go_skip | go_guarded | go_step | go_upon)
     exact bodyPost_ret (res_mkC _ _ (w.heap.size+1) ec _ _ ((R6.out.set 0 (.int .i64 0)).set 1 (.slice none 0 0)) rfl rfl) rfl ⟨_,by rw[HXE.out],by rw[HXE.out];exact .inl ⟨rfl,jja5 _⟩,(W6.out.setCell (p:=⟨w.heap.size+1,0,none⟩) (by show w.heap.size≤w.heap.size+1;omega) _).setCell (p:=⟨w.heap.size+1,1,none⟩) (by show w.heap.size≤w.heap.size+1;omega) _⟩
  ·have q1:¬ (q:Int)<(L.length:Int):=by omega
   have HXE:Hid (X=((0,S),0)):=by have h9:=hI.out.stop hlt;rw[HX.out]at h9;exact h9
   obtain⟨av,cv,hvs⟩:=hM.out.sts.sts.sl
   subst hvs;have e2:=hM.out.mak.blk.cell 2 (v:= .slice av S.length cv) rfl;have r0:=hM.out.bxR.cell 0 (v:= .int .i64 0) rfl;have r1:=hM.out.bxR.cell 1 (v:= .slice none 0 0) rfl;have g0:=hM.out.bxR.fz 0;have g1:=hM.out.bxR.fz 1;go_wp2
   refine bodyPost_ret (res_mkC _ _ (w.heap.size+1) 0 _ _ ((hM.out.bxR.set 0 (.int .i64 0)).set 1 (.slice av S.length cv)) rfl rfl) rfl ⟨_,by rw[HXE.out],?_,(hM.out.below.setCell (p:=⟨w.heap.size+1,0,none⟩) (by show w.heap.size≤w.heap.size+1;omega) _).setCell (p:=⟨w.heap.size+1,1,none⟩) (by show w.heap.size≤w.heap.size+1;omega) _⟩
   rw[HXE.out];exact .inr ⟨_,rfl,((hM.out.sts.setM hM.out.bxR 0 _).setM (hM.out.bxR.set 0 _) 1 _).monoB (by omega)⟩
theorem certP_own (v:Value)(m:Mc)(w:World)(h:Mach w v m)(hok:okM m)(ht:Tab w):
  Calls Tryz.prog 22 #[v] w fun e w'=>RatOwn (cerA m).1 (cerA m).2 w e w':=by
 by_cases fa:faultM m=0
 ·obtain ⟨z,l⟩:=m
  have h2:=h;obtain⟨vs,rfl,hS⟩:=h2
  obtain⟨a,cap,rfl⟩:=hS.sl
  by_cases he:empB l=true
  ·have h9:=certP_emp z a cap l w h hok fa (.inl he)
   rw[if_pos he,if_pos he]at h9;have e:cerA (z,l)=((0,[]),7):=by unfold cerA;rw[if_neg (fun g=>g fa),if_pos he]
   rw[e];exact h9
  ·have he':empB l=false:=by simpa using he
   by_cases hz:z<0
   ·have h9:=certP_emp z a cap l w h hok fa (.inr ⟨he',hz⟩)
    rw[if_neg he,if_neg he]at h9;have e:cerA (z,l)=((-1,[]),0):=by unfold cerA;rw[if_neg (fun g=>g fa),if_neg he,if_pos hz]
    rw[e];exact h9
   ·exact certP_ok z a cap l w h hok fa he' (by omega) ht
 ·have e:cerA m=((0,[]),faultM m):=by unfold cerA;rw[if_pos fa]
  rw[e];exact certP_bad v m w h hok _ rfl fa
theorem certP_any (v:Value)(m:Mc)(w:World)(h:Mach w v m)(hok:okM m)(ht:Tab w):
 Calls Tryz.prog 22 #[v] w fun e w'=>RatRes (cerA m).1 (cerA m).2 w e w':=(certP_own v m w h hok ht).mono fun _ _ h=>h.res
def encZ (t:Nat):List Value:=[.int .i64 (t:Int)]
theorem encZ_len (t:Nat):(encZ t).length=1:=rfl
theorem encZ_one (t:Nat):∀ u ∈ encZ t,u.oneCell'=true:=by
 intro u hu;simp[encZ]at hu;subst hu;rfl
theorem infoIntZ :(Tryz.prog.info? 3).map (fun i=>(i.zero,i.size,i.bytes))=some (some (.int .i64 0),1,8):=by kernel_rfl
def OwnZ (w:World)(base:Nat)(v:Value)(L:List Nat):Prop:=w.ownsRow base 3 1 v L.length (L.flatMap encZ)
theorem OwnZ.later {w w':World}{base:Nat}{v:Value}{L:List Nat}(h:OwnZ w base v L)(hb:Below w.heap.size w w'):OwnZ w' base v L:=ownBelow h hb
theorem OwnZ.sl {w:World}{base:Nat}{v:Value}{L:List Nat}(h:OwnZ w base v L):∃ a cap,v= .slice a L.length cap:=jjbx h
theorem OwnZ.get {w:World}{base:Nat}{v:Value}{L:List Nat}(h:OwnZ w base v L):∃ a cap,v= .slice a L.length cap∧∀ j,j<L.length→∃ b off,a=some ⟨b,off,none⟩∧b<w.heap.size∧w.cell? ⟨b,off+j,none⟩=some (.int .i64 ((el L j:Nat):Int)):=by
 have hr:Row 1 encZ w v L:=Row.ofOwn encZ_len h rfl;by_cases hz:0<L.length
 ·obtain ⟨b,off,cap,hv,hb,hc⟩:=hr.plain (fun x=>by rw[encZ_len];omega) hz
  exact⟨_,cap,hv,fun j hj=>⟨b,off,rfl,hb,by have h9:=hc j hj 0 _ rfl;simpa using h9⟩⟩
 ·obtain ⟨a,cap,hv⟩:=hr.sl
  exact⟨a,cap,hv,fun j hj=>absurd hj (by omega)⟩
theorem OwnZ.cell {w:World}{base:Nat}{a:Option Addr}{n cap:Nat}{L:List Nat}(h:OwnZ w base (.slice a n cap) L){j:Nat}(hj:j<L.length):∃ b off,a=some ⟨b,off,none⟩∧b<w.heap.size∧w.cell? ⟨b,off+j,none⟩=some (.int .i64 ((el L j:Nat):Int)):=by
 obtain⟨a',cap',hv,hc⟩:=h.get
 obtain⟨rfl,_,_⟩:a=a'∧n=L.length∧cap=cap':=by simpa using hv
 exact hc j hj
structure LmIn (w6 wr:World)(r0:Option Nat)(base Sb:Nat)(fin:Int)(va:Value)(ar:List Ar)(vl:Value)(L:List Nat):Prop where
 grow:w6.grownBy wr r0
 near:Near w6 r0 vl
 trs:OwnZ wr base vl L
 sb:Blk wr Sb #[.int .i64 fin,va] 45
 arcs:OwnArcs wr w6.heap.size va ar
 sbge:w6.heap.size≤Sb
section
variable {w6 wr:World} {r0:Option Nat} {base Sb:Nat} {fin:Int} {va vl:Value} {ar:List Ar} {L:List Nat}
end
structure LmAt (W wr:World)(M:Nat)(vm:Value)(S:List St)(vl:Value)(L:List Nat):Prop where
 bxM:Blk wr M #[.int .i64 0,vm] 24
 sts:OwnSts wr W.heap.size vm S
 trs:OwnZ wr W.heap.size vl L
 below:Below W.heap.size W wr
 sM:W.heap.size≤M
section
variable {W wr w':World} {M:Nat} {vm:Value} {S:List St} {vl:Value} {L:List Nat}
end
end Wt
namespace Pl
def difB (s t:St):Bool:=decide (s.1≠t.1)||decide (s.2.map (fun a=>(a.1,a.2.1,a.2.2.1))≠t.2.map (fun a=>(a.1,a.2.1,a.2.2.1)))
inductive Aprt (l:List St):Nat→Nat→Prop
 | now {q p:Nat}:difB (el l q) (el l p)=true→Aprt l q p
 | step {q p i t u:Nat}:difB (el l q) (el l p)=false→i<(el l q).2.length→(el (el l q).2 i).2.2.2=(t:Int)→(el (el l p).2 i).2.2.2=(u:Int)→Aprt l t u→Aprt l q p
theorem dif_refl (s:St):difB s s=false:=by simp[difB]
theorem jjew (s t:St):difB s t=difB t s:=by
 unfold difB;rw[Bool.eq_iff_iff];simp only[Bool.or_eq_true,decide_eq_true_eq];constructor<;>rintro (h | h)
 ·exact .inl (Ne.symm h)
 ·exact .inr (Ne.symm h)
 ·exact .inl (Ne.symm h)
 ·exact .inr (Ne.symm h)
theorem dif_false {s t:St}:difB s t=false↔s.1=t.1∧s.2.map (fun a=>(a.1,a.2.1,a.2.2.1))=t.2.map (fun a=>(a.1,a.2.1,a.2.2.1)):=by
 unfold difB;rw[Bool.or_eq_false_iff];simp only[decide_eq_false_iff_not,ne_eq,Decidable.not_not]
theorem jjbs {s t:St}(h:difB s t=false):s.2.length=t.2.length:=by
 have:=congrArg List.length (dif_false.1 h).2;simpa using this
theorem dif_el {s t:St}(h:difB s t=false){i:Nat}(hi:i<s.2.length):(el s.2 i).1=(el t.2 i).1∧(el s.2 i).2.1=(el t.2 i).2.1∧(el s.2 i).2.2.1=(el t.2 i).2.2.1:=by
 have hl:=jjbs h;have h2:=(dif_false.1 h).2;have e1:el (s.2.map (fun a=>(a.1,a.2.1,a.2.2.1))) i=((el s.2 i).1,(el s.2 i).2.1,(el s.2 i).2.2.1):=jja2 hi _;have e2:el (t.2.map (fun a=>(a.1,a.2.1,a.2.2.1))) i=((el t.2 i).1,(el t.2 i).2.1,(el t.2 i).2.2.1):=jja2 (by omega) _;rw[h2,e2]at e1;simp only[Prod.mk.injEq]at e1;exact⟨e1.1.symm,e1.2.1.symm,e1.2.2.symm⟩
theorem jje8 {s t u:St}(h:difB s t=false)(k:difB t u=false):difB s u=false:=dif_false.2 ⟨(dif_false.1 h).1.trans (dif_false.1 k).1,(dif_false.1 h).2.trans (dif_false.1 k).2⟩
theorem Aprt.symm {l:List St}{q p:Nat}(h:Aprt l q p):Aprt l p q:=by
 induction h with
 | now h=>exact .now (by rw[jjew];exact h)
 | step h hi ht hu _ ih=>exact .step (by rw[jjew];exact h) (by rw[← jjbs h];exact hi) hu ht ih
theorem Aprt.irrefl {l:List St}{q p:Nat}(h:Aprt l q p):q≠p:=by
  induction h with
  | now h=>rintro rfl;rw[dif_refl]at h;cases h
  | step h hi ht hu _ ih=>
    rintro rfl
    rw[ht]at hu;exact ih (by omega)
def Alk (l:List St)(q p:Nat):Prop:=¬ Aprt l q p
theorem Alk.refl (l:List St)(q:Nat):Alk l q q:=fun h=>h.irrefl rfl
theorem Alk.symm {l:List St}{q p:Nat}(h:Alk l q p):Alk l p q:=fun k=>h k.symm
theorem Alk.dif {l:List St}{q p:Nat}(h:Alk l q p):difB (el l q) (el l p)=false:=by
 cases e:difB (el l q) (el l p)with
 | false=>rfl
 | true=>exact absurd (Aprt.now e) h
theorem Alk.arc {l:List St}{q p i t u:Nat}(h:Alk l q p)(hi:i<(el l q).2.length)(ht:(el (el l q).2 i).2.2.2=(t:Int))(hu:(el (el l p).2 i).2.2.2=(u:Int)):Alk l t u:=fun k=>h (.step h.dif hi ht hu k)
theorem Alk.trans {l:List St}(hto:∀ q,q<l.length→∀ a ∈ (el l q).2,∃ t:Nat,a.2.2.2=(t:Int)∧t<l.length){q p r:Nat}(hp:p<l.length)(h:Alk l q p)(k:Alk l p r):Alk l q r:=by
  intro ha;induction ha generalizing p with
  | now hd=>rw [jje8 h.dif k.dif]at hd;cases hd
  | @step q r i t u hd hi ht hu _ ih=>
    have hi2:i<(el l p).2.length:=by rw[← jjbs h.dif];exact hi
    obtain⟨x,hx,hxl⟩:=hto p hp _ (jjac hi2)
    exact ih hxl (h.arc hi ht hx) (k.arc hi2 hx hu)
open Classical in
theorem alk_first (l:List St)(q:Nat):∃ c,c≤q∧Alk l c q∧∀ d,d<c→¬ Alk l d q:=by
  have key:∀ n,(∃ c,c≤n∧c≤q∧Alk l c q)→∃ c,c≤q∧Alk l c q∧∀ d,d<c→¬ Alk l d q:=by
    intro n;induction n with
    | zero=>
      rintro⟨c,h0,h1,h2⟩
      exact⟨c,h1,h2,fun d hd=>by omega⟩
    | succ n ih=>
      rintro⟨c,h0,h1,h2⟩
      by_cases e:∃ d,d<c∧Alk l d q
      · obtain⟨d,hd,hk⟩:=e
        exact ih ⟨d,by omega,by omega,hk⟩
      · exact⟨c,h1,h2,fun d hd hk=>e ⟨d,hd,hk⟩⟩
  exact key q ⟨q,Nat.le_refl _,Nat.le_refl _,Alk.refl l q⟩
structure FstC (l:List St)(f:Nat→Nat):Prop where
 le:∀ q,f q≤q
 alk:∀ q,q<l.length→Alk l (f q) q
 one:∀ q p,q<l.length→p<l.length→(f q=f p↔Alk l q p)
theorem cls_exists {l:List St}(hto:∀ q,q<l.length→∀ a ∈ (el l q).2,∃ t:Nat,a.2.2.2=(t:Int)∧t<l.length):∃ f,FstC l f:=by
 obtain⟨f,hf⟩:=Classical.axiomOfChoice (alk_first l)
 refine⟨f,fun q=>(hf q).1,fun q _=>(hf q).2.1,fun q p hq hp=>⟨fun e=>?_,fun h=>?_⟩⟩
 ·have h1:=(hf q).2.1
  have h2:=(hf p).2.1;rw[e]at h1;have hl:f p<l.length:=Nat.lt_of_le_of_lt (hf p).1 hp;exact Alk.trans hto hl h1.symm h2
 ·have h1:=(hf q).2.1
  have h2:=(hf p).2.1;have k1:Alk l (f q) p:=Alk.trans hto hq h1 h;have k2:Alk l (f p) q:=Alk.trans hto hp h2 h.symm;have g1:¬ f q<f p:=fun g=>(hf p).2.2 _ g k1
  have g2:¬ f p<f q:=fun g=>(hf q).2.2 _ g k2
  omega
def lstF (l:List St)(q:Nat):Int × Int:=((el l q).1,0)
def lstH (l:List St)(f:Nat→Nat)(q:Nat):List (Hg Nat):=(el l q).2.map fun a=>(a.1,a.2.1,a.2.2.1,f a.2.2.2.toNat)
theorem lst_same {l:List St}(hto:∀ q,q<l.length→∀ a ∈ (el l q).2,∃ t:Nat,a.2.2.2=(t:Int)∧t<l.length){f:Nat→Nat}(hf:FstC l f){q p:Nat}(hq:q<l.length)(hp:p<l.length)(h:Alk l q p):lstF l q=lstF l p∧lstH l f q=lstH l f p:=by
 have hd:=h.dif;refine⟨by unfold lstF;rw[(dif_false.1 hd).1],?_⟩
 unfold lstH;refine jjc2 (by simp only[List.length_map];exact jjbs hd) fun i hi=>?_
 simp only[List.length_map]at hi;have hi2:i<(el l p).2.length:=by rw[← jjbs hd];exact hi
 rw[jja2 hi,jja2 hi2];obtain⟨e1,e2,e3⟩:=dif_el hd hi
 obtain⟨t,ht,htl⟩:=hto q hq _ (jjac hi)
 obtain⟨u,hu,hul⟩:=hto p hp _ (jjac hi2)
 rw[e1,e2,e3,ht,hu,Int.toNat_natCast,Int.toNat_natCast,(hf.one t u htl hul).2 (h.arc hi ht hu)]
def lstA (l:List St)(f:Nat→Nat)(z:Nat):Mc × Int:=numA (lstF l) (lstH l f) (f z)
theorem jjcl {α:Type}[DecidableEq α]:∀ {L U:List α},L.Nodup→(∀ t ∈ L,t ∈ U)→L.length≤U.length
  | [],U,_,_=>Nat.zero_le _
  | x::L,U,h,hs=>by
    rw[List.nodup_cons]at h;have hx:=hs x List.mem_cons_self;have h1:=jjcl (L:=L) (U:=U.erase x) h.2 (fun t ht=>by
      have:t≠x:=fun e=>h.1 (e▸ht)
      exact(List.mem_erase_of_ne this).2 (hs t (List.mem_cons_of_mem _ ht)))
    have h2:=List.length_erase_of_mem hx;have h3:0<U.length:=List.length_pos_of_mem hx;simp only[List.length_cons];omega
section
variable {α:Type} [DecidableEq α]
theorem numH_fits {U:List α}(hU:U.length≤60):∀ (hs:List (Hg α)) (L:List α) (n:Nat),(∀ h ∈ hs,h.2.2.1≤1000000000∧h.2.2.2 ∈ U)→L.Nodup→(∀ t ∈ L,t ∈ U)→n+hs.length≤400→(numH hs L n).1=0∧(numH hs L n).2.1.Nodup∧(∀ t ∈ (numH hs L n).2.1,t ∈ U)∧L.length≤(numH hs L n).2.1.length:=by
  intro hs;induction hs with
  | nil=>intro L n _ h1 h2 _;exact⟨rfl,h1,h2,Nat.le_refl _⟩
  | cons h hs ih=>
    intro L n hh h1 h2 hn;obtain⟨g1,g2⟩:=hh h List.mem_cons_self
    have k1:=jjdh h1 h.2.2.2;have k2:∀ t ∈ addG L h.2.2.2,t ∈ U:=fun t ht=>by
      unfold addG at ht;split at ht
      · exact h2 t ht
      · rcases List.mem_append.1 ht with g | g
        · exact h2 t g
        · rw[List.mem_singleton]at g;rw[g];exact g2
    have k3:=jjcl k1 k2;simp only[List.length_cons]at hn;obtain⟨m1,m2,m3,m4⟩:=ih (addG L h.2.2.2) (n+1) (fun k hk=>hh k (List.mem_cons_of_mem _ hk)) k1 k2 (by omega)
    simp only[numH];rw[if_neg (by omega),if_neg (by omega)];exact⟨m1,m2,m3,Nat.le_trans (addG_len L h.2.2.2).1 m4⟩
end
theorem sum_erase {α:Type}[DecidableEq α](g:α→Nat){x:α}:∀ {U:List α},x ∈ U→(U.map g).sum=g x+((U.erase x).map g).sum
  | [],h=>by cases h
  | y::U,h=>by
    by_cases e:y=x
    · subst e
      rw[List.erase_cons_head];simp
    · have hx:x ∈ U:=by
        rcases List.mem_cons.1 h with g | g
        · exact absurd g.symm e
        · exact g
      rw[List.erase_cons_tail (by simpa using e)];simp only[List.map_cons,List.sum_cons];rw[sum_erase g hx];omega
theorem nodup_sum {α:Type}[DecidableEq α](g:α→Nat):∀ {L U:List α},L.Nodup→(∀ t ∈ L,t ∈ U)→(L.map g).sum≤(U.map g).sum
  | [],U,_,_=>Nat.zero_le _
  | x::L,U,h,hs=>by
    rw[List.nodup_cons]at h;have hx:=hs x List.mem_cons_self;have h1:=nodup_sum g (L:=L) (U:=U.erase x) h.2 (fun t ht=>by
      have:t≠x:=fun e=>h.1 (e▸ht)
      exact(List.mem_erase_of_ne this).2 (hs t (List.mem_cons_of_mem _ ht)))
    have h2:=sum_erase g hx;simp only[List.map_cons,List.sum_cons];omega
section
variable {α:Type} [DecidableEq α] [Inhabited α] {fin:α→Int × Int} {hops:α→List (Hg α)}
theorem numS_fitsW {U:List α}(hU:U.length≤60)(hW:(U.map fun t=>(hops t).length).sum≤400)(H:∀ t ∈ U,(fin t).2=0∧∀ h ∈ hops t,h.2.2.1≤1000000000∧h.2.2.2 ∈ U):∀ (k q:Nat) (L:List α) (S:List St) (n:Nat),L.Nodup→(∀ t ∈ L,t ∈ U)→q≤L.length→n=((L.take q).map fun t=>(hops t).length).sum→60<k+q→∃ x,numS fin hops k q L S n=(x,0):=by
  intro k;induction k with
  | zero=>
    intro q L S n h1 h2 h3 h4 h5
    have:=jjcl h1 h2;omega
  | succ k ih=>
    intro q L S n h1 h2 h3 h4 h5;simp only[numS];by_cases hq:q<L.length
    · obtain⟨g1,g2⟩:=H (el L q) (h2 _ (jjac hq))
      have hsum:n+(hops (el L q)).length=((L.take (q+1)).map fun t=>(hops t).length).sum:=by
        rw[jja0 hq,List.map_append,List.sum_append,h4];simp
      have hle:((L.take (q+1)).map fun t=>(hops t).length).sum≤400:=Nat.le_trans (nodup_sum _ (List.Sublist.nodup (List.take_sublist _ _) h1) fun t ht=>h2 t (List.mem_of_mem_take ht)) hW;obtain⟨m1,m2,m3,m4⟩:=numH_fits (U:=U) hU (hops (el L q)) L n g2 h1 h2 (by omega)
      obtain⟨⟨E,e1⟩,_⟩:=jjcp (hops (el L q)) L n h1 m1
      rw[if_pos hq,if_neg (fun g=>g g1),if_neg (fun g=>g m1)];refine ih _ _ _ _ m2 m3 (by omega) ?_ (by omega)
      rw[hsum,e1,List.take_append_of_le_length (by omega)]
    · rw[if_neg hq]
      exact⟨_,rfl⟩
theorem numA_fitsW {s0:α}{U:List α}(hU:U.length≤60)(hW:(U.map fun t=>(hops t).length).sum≤400)(h0:s0 ∈ U)(H:∀ t ∈ U,(fin t).2=0∧∀ h ∈ hops t,h.2.2.1≤1000000000∧h.2.2.2 ∈ U):∃ x,numA fin hops s0=(x,0):=
 numS_fitsW hU hW H 61 0 [s0] [] 0 (by simp) (fun t ht=>by rw[List.mem_singleton]at ht;rw[ht];exact h0) (by simp) (by simp) (by omega)
end
theorem arcs_sum (l:List St):((List.range l.length).map fun q=>(el l q).2.length).sum=arcN l:=by
  have:∀ k,k≤l.length→((List.range k).map fun q=>(el l q).2.length).sum=arcN (l.take k):=by
    intro k;induction k with
    | zero=>intro _;simp[arcN]
    | succ k ih=>
      intro hk;rw[List.range_succ,List.map_append,List.sum_append,ih (by omega),jjbf (by omega)];simp
  have h:=this l.length (Nat.le_refl _);rw[List.take_length]at h;exact h
theorem lst_done {z:Int}{l:List St}(hr:faultM (z,l)=0){f:Nat→Nat}(hf:FstC l f){s:Nat}(hs:s<l.length):∃ x,lstA l f s=(x,0):=by
 have h2:=jjae hr;unfold lstA;refine numA_fitsW (U:=List.range l.length) (by simpa using h2.1) ?_ (List.mem_range.2 (Nat.lt_of_le_of_lt (hf.le s) hs)) fun t ht=>?_
 ·have e:(fun t=>(lstH l f t).length)=fun q=>(el l q).2.length:=by funext q;simp[lstH]
  rw[e,arcs_sum];exact h2.2
 ·have htl:=List.mem_range.1 ht
  refine⟨rfl,fun h hh=>?_⟩
  obtain⟨a,ha,rfl⟩:=List.mem_map.1 hh
  obtain⟨_,_,_,_,_,h3,u,hu,hul⟩:=jjbi (m:=(z,l)) hr htl ha
  refine⟨h3,List.mem_range.2 ?_⟩
  simp only at hu ⊢;rw[hu,Int.toNat_natCast];exact Nat.lt_of_le_of_lt (hf.le u) hul
end Go.Proofs.YtppkiejhhmahcaaGreatDoor.Pl
