/- Facts, joined. -/
import Derived.Test.YtppkiejhhmahcaaGreatDoorSav
set_option linter.unusedSimpArgs false
set_option linter.unusedVariables false
set_option maxHeartbeats 3200000
set_option maxRecDepth 100000
namespace Go.Proofs.YtppkiejhhmahcaaGreatDoor.Wt
open ChangeShapes WideShapes ChangeAt RowKit Maps Pl
def encP (p:Pa):List Value:=[.int .i64 p.1,.int .i64 p.2]
theorem encP_len (p:Pa):(encP p).length=2:=rfl
theorem encP_one (p:Pa):∀ u ∈ encP p,u.oneCell'=true:=by
 intro u hu;simp[encP]at hu;rcases hu with rfl | rfl<;>rfl
theorem infoPart :(Tryz.prog.info? 92).map (fun i=>(i.zero,i.size,i.bytes))=some (some (.agg #[.int .i64 0,.int .i64 0]),2,16):=by kernel_rfl
def OwnP (w:World)(base:Nat)(v:Value)(ps:List Pa):Prop:=w.ownsRow base 92 2 v ps.length (ps.flatMap encP)
theorem OwnP.nil (w:World)(base:Nat):OwnP w base (.slice none 0 0) []:=World.ownsRow_nil _ _ _ _
theorem OwnP.later {w w':World}{base:Nat}{v:Value}{ps:List Pa}(h:OwnP w base v ps)(hb:Below w.heap.size w w'):OwnP w' base v ps:=ownBelow h hb
theorem OwnP.mono {w:World}{base base':Nat}{v:Value}{ps:List Pa}(h:OwnP w base v ps)(hb:base'≤base):OwnP w base' v ps:=ownMono h hb
theorem OwnP.sl {w:World}{base:Nat}{v:Value}{ps:List Pa}(h:OwnP w base v ps):∃ a cap,v= .slice a ps.length cap:=jjbx h
theorem OwnP.one (w:World)(p:Pa){base:Nat}(hb:base≤w.heap.size):OwnP (w.alloc (.cells (encP p).toArray 92)) base (.slice (some ⟨w.heap.size,0,none⟩) 1 1) [p]:=by
 refine⟨rfl,.inr ⟨w.heap.size,1,(encP p).toArray,rfl,hb,Blk.made _ _ _,by simp,by unfold maxLen;omega,rfl,?_⟩⟩
 simp[encP]
theorem OwnP.cell {w:World}{base:Nat}{a:Option Addr}{n cap:Nat}{ps:List Pa}(h:OwnP w base (.slice a n cap) ps){j:Nat}(hj:j<ps.length):∃ b off,a=some ⟨b,off,none⟩∧b<w.heap.size∧w.cell? ⟨b,off+j*2,none⟩=some (.int .i64 (el ps j).1)∧w.cell? ⟨b,off+j*2+1,none⟩=some (.int .i64 (el ps j).2):=by
 have hr:Row 2 encP w (.slice a n cap) ps:=Row.ofOwn encP_len h rfl;obtain⟨b,off,cap',hv,hb,hc⟩:=hr.plain (fun x=>by rw[encP_len];omega) (by omega)
 obtain⟨rfl,_,_⟩:a=some ⟨b,off,none⟩∧n=ps.length∧cap=cap':=by simpa using hv
 exact⟨b,off,rfl,hb,hc j hj 0 _ rfl,hc j hj 1 _ rfl⟩
theorem OwnP.push {W:World}{base:Nat}{v:Value}{ps:List Pa}(h:OwnP W base v ps)(p:Pa)(hl:ps.length≤100000)(hb:base≤W.heap.size):
  ∃ v' w',(Builtin.append_ #[94,94] 94 #[v,.slice (some ⟨W.heap.size,0,none⟩) 1 1]).run Tryz.prog (W.alloc (.cells (encP p).toArray 92))= .ok v' w'∧OwnP w' base v' (ps++[p])∧Below base W w'∧(W.alloc (.cells (encP p).toArray 92)).grownBy w' v.ownBlock:=by
 obtain⟨i1,hi1,hy0,hy1,hy2⟩:=info_parts infoPart
 obtain⟨v4,w4,r4,ho4,hg4,_⟩:=jjao (P:=Tryz.prog) (w:=W.alloc (.cells (encP p).toArray 92)) encP_len (by decide) encP_one 94 94 base 92 i1 _ 16 Tryz.underlying94 hi1 hy0 hy1 hy2 rfl _ ps.length (ps.flatMap encP) (World.ownsRow.alloc h _) _ [p] (oneRow (enc:=encP) W p rfl 92) (by simp;unfold maxLen;omega) (by simp;omega) (by simp;omega)
 have ho:OwnP w4 base v4 (ps++[p]):=by unfold OwnP;rw[List.length_append,List.flatMap_append];exact ho4
 exact⟨v4,w4,r4,ho,((Below.refl _ _).alloc hb _).grown hg4 (by simp;omega) (jjcv h),hg4⟩
abbrev Slc :=Option Addr × Nat × Nat
def slV (s:Slc):Value:= .slice s.1 s.2.1 s.2.2
def encL (s:Slc):List Value:=[.slice s.1 s.2.1 s.2.2]
theorem jje4 (s:Slc):(encL s).length=1:=rfl
theorem encL_one (s:Slc):∀ u ∈ encL s,u.oneCell'=true:=by
 intro u hu;simp[encL]at hu;subst hu;rfl
theorem infoSetC :(Tryz.prog.info? 94).map (fun i=>(i.zero,i.size,i.bytes))=some (some (.slice none 0 0),1,24):=by kernel_rfl
def SetsM (w:World)(base:Nat)(v:Value)(L:List (List Pa)):Prop:=∃ ss:List Slc,ss.length=L.length∧w.ownsRow base 94 1 v ss.length (ss.flatMap encL)∧∀ j,j<L.length→OwnP w base (slV (el ss j)) (el L j)
theorem SetsM.nil (w:World)(base:Nat):SetsM w base (.slice none 0 0) []:=⟨[],rfl,World.ownsRow_nil _ _ _ _,fun j hj=>absurd hj (by simp)⟩
theorem SetsM.later {w w':World}{base:Nat}{v:Value}{L:List (List Pa)}(h:SetsM w base v L)(hb:Below w.heap.size w w'):SetsM w' base v L:=by
 obtain⟨ss,h1,h2,h3⟩:=h
 exact⟨ss,h1,ownBelow h2 hb,fun j hj=>(h3 j hj).later hb⟩
theorem SetsM.sl {w:World}{base:Nat}{v:Value}{L:List (List Pa)}(h:SetsM w base v L):∃ a c,v= .slice a L.length c:=by
 obtain⟨ss,h1,h2,h3⟩:=h
 obtain⟨a,c,hv⟩:=jjbx h2
 exact⟨a,c,by rw[hv,h1]⟩
theorem SetsM.get {w:World}{base:Nat}{a:Option Addr}{n cap:Nat}{L:List (List Pa)}(h:SetsM w base (.slice a n cap) L){q:Nat}(hq:q<L.length):∃ G b c,a=some ⟨G,0,none⟩∧G<w.heap.size∧w.cell? ⟨G,q,none⟩=some (.slice b (el L q).length c)∧OwnP w base (.slice b (el L q).length c) (el L q):=by
 obtain⟨ss,h1,h2,h3⟩:=h
 have h2':=h2;rcases h2.2 with⟨_,h0⟩ | ⟨G,cap,cur,hv,hb,hG,_⟩
 ·omega
 ·injection hv with e1 _ _
  have h4:=h3 q hq;obtain⟨b,c,hs⟩:=h4.sl
  refine⟨G,b,c,e1,lt_of_block hG,?_,by rw[← hs];exact h4⟩
  have h9:=h2'.cells (g:=G) (by rw[e1];rfl) q (slV (el ss q)) (by
   have:=jjas jje4 ss q (by omega) 0 (by omega)
   rw[Nat.mul_one,Nat.add_zero]at this
   rw[this];rfl)
  rw[Addr.add_lit,Nat.zero_add,hs]at h9;exact h9
theorem SetsM.kept {w w':World}{base b':Nat}{v vo:Value}{L:List (List Pa)}{e:TypeId}{s n:Nat}{ms:List Value}(h:SetsM w base v L)(ho:w.ownsRow b' e s vo n ms)(he:e≠94)(hi:e≠92)(hg:w.grownBy w' vo.ownBlock):SetsM w' base v L:=by
 obtain⟨ss,h1,h2,h3⟩:=h
 exact⟨ss,h1,h2.kept hg (jjcm h2 ho (Ne.symm he)),fun j hj=>World.ownsRow.kept (h3 j hj) hg (jjcm (h3 j hj) ho (Ne.symm hi))⟩
theorem SetsM.setB {w:World}{base:Nat}{v:Value}{L:List (List Pa)}(h:SetsM w base v L){b:Nat}{cs:Array Value}{t:TypeId}(hb:Blk w b cs t)(ht:94≠t)(hi:92≠t)(o:Nat)(u:Value):SetsM (w.setCell ⟨b,o,none⟩ u) base v L:=by
 obtain⟨ss,h1,h2,h3⟩:=h
 exact⟨ss,h1,h2.kept (gSet w b o u) (.inr (Ne.symm (jjak h2 hb ht))),fun j hj=>World.ownsRow.kept (h3 j hj) (gSet w b o u) (.inr (Ne.symm (jjak (h3 j hj) hb hi)))⟩
theorem SetsM.push {W:World}{base:Nat}{v:Value}{L:List (List Pa)}(h:SetsM W base v L){a:Option Addr}{n c:Nat}{ps:List Pa}(hp:OwnP W base (.slice a n c) ps)(hl:L.length≤100000)(hb:base≤W.heap.size):
  ∃ v' w',(Builtin.append_ #[87,87] 87 #[v,.slice (some ⟨W.heap.size,0,none⟩) 1 1]).run Tryz.prog (W.alloc (.cells #[.slice a n c] 94))= .ok v' w'∧SetsM w' base v' (L++[ps])∧Below base W w'∧(W.alloc (.cells #[.slice a n c] 94)).grownBy w' v.ownBlock:=by
 obtain⟨i1,hi1,hy0,hy1,hy2⟩:=info_parts infoSetC
 obtain⟨ss,h1,h2,h3⟩:=h
 have hA:Below W.heap.size W (W.alloc (.cells #[.slice a n c] 94)):=(Below.refl _ _).alloc (Nat.le_refl _) _
 obtain⟨v4,w4,r4,ho4,hg4,_⟩:=jjao (P:=Tryz.prog) (w:=W.alloc (.cells (encL (a,n,c)).toArray 94)) jje4 (by decide) encL_one 87 87 base 94 i1 _ 24 Tryz.underlying87 hi1 hy0 hy1 hy2 rfl _ ss.length (ss.flatMap encL) (World.ownsRow.alloc h2 _) _ [(a,n,c)] (oneRow (enc:=encL) W (a,n,c) rfl 94) (by simp;unfold maxLen;omega) (by simp;omega) (by simp;omega)
 have hkeep:∀ v ps,OwnP W base v ps→OwnP w4 base v ps:=fun v ps k=>World.ownsRow.kept (OwnP.later k hA) hg4 (jjcm (OwnP.later k hA) (World.ownsRow.alloc h2 _) (by decide))
 refine⟨v4,w4,r4,⟨ss++[(a,n,c)],by simp[h1],by rw[List.length_append,List.flatMap_append];exact ho4,fun j hj=>?_⟩,((Below.refl _ _).alloc hb _).grown hg4 (by simp;omega) (jjcv h2),hg4⟩
 rw[List.length_append]at hj;simp at hj;by_cases e:j<L.length
 ·rw [jjbc (by omega),jjbc e]
  exact hkeep _ _ (h3 j e)
 ·obtain rfl:j=L.length:=by omega
  have e1:el (ss++[(a,n,c)]) L.length=(a,n,c):=by rw[← h1];exact jjbu _ _
  rw[e1,jjbu];exact hkeep _ _ hp
end Wt
namespace Pl
def wtA (x:Int)(a:Ar):Ar:=(a.1,a.2.1,a.2.2.1+x,a.2.2.2)
def arcW (l:List St)(ps:List Pa):List Ar:=ps.flatMap fun p=>(el l p.1.toNat).2.map (wtA p.2)
theorem arcW_snoc (l:List St)(ps:List Pa)(p:Pa):arcW l (ps++[p])=arcW l ps++(el l p.1.toNat).2.map (wtA p.2):=by simp[arcW]
theorem mem_arcW {l:List St}{S:List Int}{a:Ar}:a ∈ arcW l (parL S)↔∃ q:Nat,q<S.length∧el S q≠noneI∧∃ b ∈ (el l q).2,a=wtA (el S q) b:=by
 unfold arcW;rw[List.mem_flatMap];constructor
 ·rintro ⟨p,hp,h⟩
  obtain⟨q,hq,h1,rfl⟩:=mem_parL.1 hp
  obtain⟨b,hb,rfl⟩:=List.mem_map.1 h
  exact⟨q,hq,h1,b,by simpa using hb,rfl⟩
 ·rintro ⟨q,hq,h1,b,hb,rfl⟩
  exact⟨_,mem_parL.2 ⟨q,hq,h1,rfl⟩,List.mem_map.2 ⟨b,by simpa using hb,rfl⟩⟩
def labA (a:Ar):Int × Int:=(a.1,a.2.1)
def cutS (l:List Ar):Nat→List (Nat × Nat) × Nat
 | 0=>([],0)
 | i+1=>if labA (el l i)=labA (el l (cutS l i).2) then cutS l i else((cutS l i).1++[((cutS l i).2,i-(cutS l i).2)],i)
def cutL (l:List Ar):List (Nat × Nat):=if (cutS l l.length).2<l.length then(cutS l l.length).1++[((cutS l l.length).2,l.length-(cutS l l.length).2)] else(cutS l l.length).1
def pieA (l:List Ar)(c:Nat × Nat):List Ar:=(l.drop c.1).take c.2
theorem pie_len {l:List Ar}{c:Nat × Nat}(h:c.1+c.2≤l.length):(pieA l c).length=c.2:=by
 unfold pieA;rw[List.length_take,List.length_drop];omega
theorem pie_el {l:List Ar}{c:Nat × Nat}{j:Nat}(h:j<c.2):el (pieA l c) j=el l (c.1+j):=by
 unfold pieA;rw[el_take h];simp[el]
structure CutI (l:List Ar)(i:Nat)(cs:List (Nat × Nat))(f:Nat):Prop where
 le:f≤i
 lt:0<i→f<i
 same:∀ j,f≤j→j<i→labA (el l j)=labA (el l f)
 low:∀ j,j<f→ltP (labA (el l j)) (labA (el l f))
 cov:∀ j,j<f→∃ c ∈ cs,c.1≤j∧j<c.1+c.2
 piece:∀ c ∈ cs,c.1+c.2≤f∧0<c.2∧∀ j,c.1≤j→j<c.1+c.2→labA (el l j)=labA (el l c.1)
 pair:cs.Pairwise fun c d=>ltP (labA (el l c.1)) (labA (el l d.1))
theorem ltP_trans {p q r:Int × Int}(h1:ltP p q)(h2:ltP q r):ltP p r:=by
 unfold ltP at *;omega
theorem leP_lt {p q:Int × Int}(h1:leP p q)(h2:p≠q):ltP p q:=by
 unfold leP at h1;unfold ltP;rcases h1 with h | ⟨h,g⟩
 ·exact .inl h
 ·refine .inr ⟨h,?_⟩
  have:p.2≠q.2:=fun e=>h2 (Prod.ext h e)
  omega
theorem CutI.shut {l:List Ar}{i:Nat}{cs:List (Nat × Nat)}{f:Nat}(h:CutI l i cs f)(hf:f<i):
  (∀ j,j<i→∃ c ∈ cs++[(f,i-f)],c.1≤j∧j<c.1+c.2)∧(∀ c ∈ cs++[(f,i-f)],c.1+c.2≤i∧0<c.2∧∀ j,c.1≤j→j<c.1+c.2→labA (el l j)=labA (el l c.1))∧(cs++[(f,i-f)]).Pairwise fun c d=>ltP (labA (el l c.1)) (labA (el l d.1)):=by
 refine⟨fun j hj=>?_,fun c hc=>?_,?_⟩
 ·by_cases e:j<f
  ·obtain ⟨c,hc,h1⟩:=h.cov j e
   exact⟨c,List.mem_append_left _ hc,h1⟩
  ·exact ⟨(f,i-f),by simp,by simp only;omega,by simp only;omega⟩
 ·rcases List.mem_append.1 hc with g | g
  ·have h1:=h.piece c g
   exact⟨by omega,h1.2⟩
  ·rw [List.mem_singleton]at g
   subst g;simp only;exact⟨by omega,by omega,fun j h1 h2=>h.same j h1 (by omega)⟩
 ·rw [List.pairwise_append]
  refine⟨h.pair,by simp,fun c hc d hd=>?_⟩
  rw[List.mem_singleton]at hd;subst hd;have h1:=h.piece c hc;exact h.low c.1 (by omega)
theorem cut_inv {l:List Ar}(hl:∀ i j,i<j→j<l.length→leP (labA (el l i)) (labA (el l j))):∀ i,i≤l.length→CutI l i (cutS l i).1 (cutS l i).2
  | 0,_=>⟨Nat.le_refl _,fun h=>absurd h (by omega),fun j _ h=>absurd h (by omega),fun j h=>absurd h (by simp[cutS]),fun j h=>absurd h (by simp[cutS]),fun c h=>by simp[cutS]at h,by simp[cutS]⟩
  | i+1,hi=>by
    have h:=cut_inv hl i (by omega);unfold cutS;split
    · rename_i e
      exact⟨by have:=h.le;omega,fun _=>by have:=h.le;omega,fun j h1 h2=>by
        by_cases g:j=i
        · rw[g];exact e
        · exact h.same j h1 (by omega),h.low,h.cov,h.piece,h.pair⟩
    · rename_i e
      have h0:0<i:=by
        rcases Nat.eq_zero_or_pos i with g | g
        · subst g;exact absurd rfl e
        · exact g
      have hf:=h.lt h0;obtain⟨s1,s2,s3⟩:=h.shut hf
      have hlt:ltP (labA (el l (cutS l i).2)) (labA (el l i)):=leP_lt (hl _ _ hf (by omega)) (Ne.symm e);refine⟨by simp only;omega,fun _=>by simp only;omega,fun j h1 h2=>?_,fun j hj=>?_,s1,s2,s3⟩
      · simp only at h1
        have:j=i:=by omega
        rw[this]
      · simp only at hj ⊢
        by_cases g:j<(cutS l i).2
        · exact ltP_trans (h.low j g) hlt
        · rw[h.same j (by omega) hj];exact hlt
structure CutF (l:List Ar)(cs:List (Nat × Nat)):Prop where
 cov:∀ j,j<l.length→∃ c ∈ cs,c.1≤j∧j<c.1+c.2
 piece:∀ c ∈ cs,c.1+c.2≤l.length∧0<c.2∧∀ j,c.1≤j→j<c.1+c.2→labA (el l j)=labA (el l c.1)
 pair:cs.Pairwise fun c d=>ltP (labA (el l c.1)) (labA (el l d.1))
theorem cut_all' {l:List Ar}(hl:∀ i j,i<j→j<l.length→leP (labA (el l i)) (labA (el l j))):CutF l (cutL l):=by
 have h:=cut_inv hl l.length (Nat.le_refl _);unfold cutL;split
 ·rename_i hf
  obtain⟨s1,s2,s3⟩:=h.shut hf
  exact⟨s1,s2,s3⟩
 ·rename_i hf
  exact⟨fun j hj=>h.cov j (by omega),fun c hc=>by have h1:=h.piece c hc;have:=h.le;exact⟨by omega,h1.2⟩,h.pair⟩
theorem ltP_ne {p q:Int × Int}(h:ltP p q):p≠q:=fun e=>by subst e;unfold ltP at h;omega
theorem CutF.mem {l:List Ar}{cs:List (Nat × Nat)}(h:CutF l cs){c:Nat × Nat}(hc:c ∈ cs){a:Ar}:a ∈ pieA l c↔a ∈ l∧labA a=labA (el l c.1):=by
 have hp:=h.piece c hc;have hlen:=pie_len (l:=l) (c:=c) hp.1;constructor
 ·intro ha
  obtain⟨j,hj,e⟩:=jja1 ha
  rw[hlen]at hj;rw[pie_el hj]at e;rw[← e];exact⟨jjac (by omega),hp.2.2 _ (by omega) (by omega)⟩
 ·rintro ⟨ha,he⟩
  obtain⟨j,hj,e⟩:=jja1 ha
  obtain⟨d,hd,h1,h2⟩:=h.cov j hj
  have h3:=(h.piece d hd).2.2 j h1 h2;rw[e,he]at h3;obtain⟨x,hx,ex⟩:=jja1 hc
  obtain⟨y,hy,ey⟩:=jja1 hd
  have hxy:x=y:=by
   rcases Nat.lt_trichotomy x y with g | g | g
   ·have h4:=List.pairwise_iff_getElem.1 h.pair x y hx hy g
    rw[← jjaj hx,← jjaj hy,ex,ey]at h4;exact absurd h3 (ltP_ne h4)
   ·exact g
   ·have h4:=List.pairwise_iff_getElem.1 h.pair y x hy hx g
    rw[← jjaj hx,← jjaj hy,ex,ey]at h4;exact absurd h3.symm (ltP_ne h4)
  subst hxy;rw[ex]at ey;subst ey;have h5:el (pieA l c) (j-c.1)=a:=by
   rw[pie_el (by omega),← e];congr 1
   omega
  rw[← h5];exact jjac (by rw[hlen];omega)
structure Grp (g:List Ar)(p:Int × Int):Prop where
 lab:∀ i,i<g.length→labA (el g i)=p
 ord:∀ i j,i<j→j<g.length→(el g i).2.2.2<(el g j).2.2.2∨(el g i).2.2.2=(el g j).2.2.2∧(el g i).2.2.1≤(el g j).2.2.1
theorem CutF.grp {l:List Ar}{cs:List (Nat × Nat)}(h:CutF l cs)(hl:∀ i j,i<j→j<l.length→leB (el l i) (el l j)=true){c:Nat × Nat}(hc:c ∈ cs):Grp (pieA l c) (labA (el l c.1)):=by
 have hp:=h.piece c hc;have hlen:=pie_len (l:=l) (c:=c) hp.1;refine⟨fun i hi=>?_,fun i j hij hj=>?_⟩
 ·rw [hlen]at hi
  rw[pie_el hi];exact hp.2.2 _ (by omega) (by omega)
 ·rw [hlen]at hj
  rw[pie_el (by omega),pie_el hj];have h1:=hl (c.1+i) (c.1+j) (by omega) (by omega);have h2:=(hp.2.2 (c.1+i) (by omega) (by omega)).trans (hp.2.2 (c.1+j) (by omega) (by omega)).symm;simp only[labA,Prod.mk.injEq]at h2;simp only[leB,Bool.not_eq_true',jja3]at h1;omega
def tgU (g:List Ar)(c:Int)(k:Nat):List Pa:=(List.range k).flatMap fun i=>if i=0∨(el g i).2.2.2≠(el g (i-1)).2.2.2 then[((el g i).2.2.2,(el g i).2.2.1-c)] else[]
theorem tgU_succ (g:List Ar)(c:Int)(k:Nat):tgU g c (k+1)=tgU g c k++(if k=0∨(el g k).2.2.2≠(el g (k-1)).2.2.2 then[((el g k).2.2.2,(el g k).2.2.1-c)] else[]):=by
 unfold tgU;rw[List.range_succ,List.flatMap_append];simp
theorem mem_tgU {g:List Ar}{c:Int}{k:Nat}{q:Pa}:q ∈ tgU g c k↔∃ i,i<k∧(i=0∨(el g i).2.2.2≠(el g (i-1)).2.2.2)∧q=((el g i).2.2.2,(el g i).2.2.1-c):=by
 unfold tgU;rw[List.mem_flatMap];constructor
 ·rintro ⟨i,hi,h⟩
  rw[List.mem_range]at hi;by_cases e:i=0∨(el g i).2.2.2≠(el g (i-1)).2.2.2
  ·rw [if_pos e,List.mem_singleton]at h;exact⟨i,hi,e,h⟩
  ·rw [if_neg e]at h;cases h
 ·rintro ⟨i,hi,e,rfl⟩
  exact⟨i,List.mem_range.2 hi,by rw[if_pos e];simp⟩
theorem tgU_len (g:List Ar)(c:Int)(k:Nat):(tgU g c k).length≤k:=by
  induction k with
  | zero=>simp [tgU]
  | succ k ih=>
    rw[tgU_succ,List.length_append];split<;>simp<;>omega
theorem Grp.to_le {g:List Ar}{p:Int × Int}(h:Grp g p){i j:Nat}(hij:i≤j)(hj:j<g.length):(el g i).2.2.2≤(el g j).2.2.2:=by
 rcases Nat.lt_or_eq_of_le hij with e | e
 ·rcases h.ord i j e hj with h | h<;>omega
 ·subst e;exact Int.le_refl _
theorem Grp.pairT {g:List Ar}{p:Int × Int}(h:Grp g p)(c:Int):∀ k,k≤g.length→(tgU g c k).Pairwise fun a b=>a.1<b.1
  | 0,_=>by simp[tgU]
  | k+1,hk=>by
    rw[tgU_succ,List.pairwise_append];refine⟨h.pairT c k (by omega),by split<;>simp,fun a ha b hb=>?_⟩
    obtain⟨i,hi,_,rfl⟩:=mem_tgU.1 ha
    split at hb
    · rename_i e
      rw[List.mem_singleton]at hb;subst hb;simp only;rcases e with e | e
      · omega
      · have h1:=h.to_le (i:=i) (j:=k-1) (by omega) (by omega)
        have h2:=h.to_le (i:=k-1) (j:=k) (by omega) (by omega);omega
    · cases hb
theorem first_to (g:List Ar):∀ i,∃ k,k≤i∧(el g k).2.2.2=(el g i).2.2.2∧(k=0∨(el g k).2.2.2≠(el g (k-1)).2.2.2)
  | 0=>⟨0,Nat.le_refl _,rfl,.inl rfl⟩
  | i+1=>by
    by_cases e:(el g (i+1)).2.2.2=(el g i).2.2.2
    · obtain⟨k,h1,h2,h3⟩:=first_to g i
      exact⟨k,by omega,h2.trans e.symm,h3⟩
    · exact⟨i+1,Nat.le_refl _,rfl,.inr (by simpa using e)⟩
theorem Grp.memT {g:List Ar}{p:Int × Int}(h:Grp g p){c:Int}{q:Pa}:q ∈ tgU g c g.length↔∃ i,i<g.length∧(∀ j,j<g.length→(el g j).2.2.2=(el g i).2.2.2→(el g i).2.2.1≤(el g j).2.2.1)∧q=((el g i).2.2.2,(el g i).2.2.1-c):=by
 rw[mem_tgU];constructor
 ·rintro ⟨i,hi,e,rfl⟩
  refine⟨i,hi,fun j hj ej=>?_,rfl⟩
  rcases Nat.lt_trichotomy i j with g1 | g1 | g1
  ·rcases h.ord i j g1 hj with k | k<;>omega
  ·subst g1;exact Int.le_refl _
  ·exfalso
   rcases e with e | e
   ·omega
   ·have h1:=h.to_le (i:=j) (j:=i-1) (by omega) (by omega)
    have h2:=h.to_le (i:=i-1) (j:=i) (by omega) hi;omega
 ·rintro ⟨i,hi,hm,rfl⟩
  obtain⟨k,h1,h2,h3⟩:=first_to g i
  refine⟨k,by omega,h3,?_⟩
  have h4:=hm k (by omega) h2;have h5:(el g k).2.2.1=(el g i).2.2.1:=by
   rcases Nat.lt_or_eq_of_le h1 with e | e
   ·rcases h.ord k i e hi with g1 | g1<;>omega
   ·rw [e]
  rw[h2,h5]
theorem cut_hops {m:Mc}{S:List Int}{B:Int}(hf:faultM m=0)(hS:SetN m.2.length B S)(hB:B+1000000000<noneI){s:List Ar}(hs:sortL (arcW m.2 (parL S))=s){cs:List (Nat × Nat)}(hc:cutL s=cs):
  cs.length=(hopsC m.2 S).length∧∀ i,i<cs.length→(el cs i).1+(el cs i).2≤s.length∧0<(el cs i).2∧labA (el s (el cs i).1)=((el (hopsC m.2 S) i).1,(el (hopsC m.2 S) i).2.1)∧mnL ((pieA s (el cs i)).map fun a=>a.2.2.1)=(el (hopsC m.2 S) i).2.2.1∧tgU (pieA s (el cs i)) (el (hopsC m.2 S) i).2.2.1 (el cs i).2=parL (el (hopsC m.2 S) i).2.2.2:=by
 have hpw:=jjbq (arcW m.2 (parL S));rw[hs]at hpw;have hle:∀ i j,i<j→j<s.length→leB (el s i) (el s j)=true:=fun i j hij hj=>by
  have h9:=List.pairwise_iff_getElem.1 hpw i j (by omega) hj hij;rwa [← jjaj,← jjaj]at h9
 have hlp:∀ i j,i<j→j<s.length→leP (labA (el s i)) (labA (el s j)):=fun i j hij hj=>by
  have h9:=hle i j hij hj;simp only[leB,Bool.not_eq_true',jja3]at h9;unfold leP labA;simp only;omega
 have hF:=cut_all' hlp;rw[hc]at hF;have hmem:∀ a,a ∈ s↔∃ q:Nat,q<m.2.length∧el S q≠noneI∧∃ b ∈ (el m.2 q).2,a=wtA (el S q) b:=fun a=>by
  rw[← hs,(jjb2 _).mem_iff,mem_arcW,hS.len]
 have hheads:cs.map (fun c=>labA (el s c.1))=prsL m.2 S:=by
  refine prsL_one (by rw[List.pairwise_map];exact hF.pair) fun p=>?_
  rw[List.mem_map];constructor
  ·rintro ⟨c,hcc,rfl⟩
   have h1:=hF.piece c hcc;obtain⟨q,hq,h2,b,hb,e⟩:=(hmem _).1 (jjac (l:=s) (j:=c.1) (by omega))
   exact⟨q,hq,h2,b,hb,by rw[e];rfl⟩
  ·rintro ⟨q,hq,h2,b,hb,rfl⟩
   obtain⟨j,hj,e⟩:=jja1 ((hmem (wtA (el S q) b)).2 ⟨q,hq,h2,b,hb,rfl⟩)
   obtain⟨c,hcc,h3,h4⟩:=hF.cov j hj
   exact⟨c,hcc,by rw[← (hF.piece c hcc).2.2 j h3 h4,e];rfl⟩
 have hlen:cs.length=(hopsC m.2 S).length:=by
  have h9:=congrArg List.length hheads;rw[List.length_map]at h9;unfold hopsC;rw[List.length_map];exact h9
 refine⟨hlen,fun i hi=>?_⟩
 have hci:=jjac hi;have hp:=hF.piece _ hci;have hG:=hF.grp hle hci;obtain⟨P,hP⟩:∃ P,labA (el s (el cs i).1)=P:=⟨_,rfl⟩
 have hhop:el (hopsC m.2 S) i=hopC m.2 S P:=by
  unfold hopsC;rw[jja2 (by rw[← hheads,List.length_map];exact hi),← hheads,jja2 hi,hP]
 rw[hhop,hP];rw[hP]at hG;have hgm:∀ a,a ∈ pieA s (el cs i)↔∃ q:Nat,q<m.2.length∧el S q≠noneI∧∃ b ∈ (el m.2 q).2,labA b=P∧a=wtA (el S q) b:=fun a=>by
  rw[hF.mem hci,hmem,hP];constructor
  ·rintro ⟨⟨q,hq,h2,b,hb,rfl⟩,h3⟩
   exact⟨q,hq,h2,b,hb,h3,rfl⟩
  ·rintro ⟨q,hq,h2,b,hb,h3,rfl⟩
   exact⟨⟨q,hq,h2,b,hb,rfl⟩,h3⟩
 have hgl:=pie_len (l:=s) (c:=el cs i) hp.1;obtain⟨g,hg⟩:∃ g,pieA s (el cs i)=g:=⟨_,rfl⟩
 rw[hg]at hG hgm hgl ⊢;rw[← hgl];have hg0:0<g.length:=by rw[hgl];exact hp.2.1
 obtain⟨i0,o0⟩:=P
 have hcos:∀ (t:Nat) (c:Int),c ∈ cosL m.2 S i0 o0 t↔∃ a ∈ g,a.2.2.2=(t:Int)∧c=a.2.2.1:=fun t c=>by
  rw[mem_cosL];constructor
  ·rintro ⟨q,hq,h1,b,hb,e1,e2,e3,rfl⟩
   exact⟨_,(hgm _).2 ⟨q,hq,h1,b,hb,by unfold labA;rw[e1,e2],rfl⟩,e3,by simp only[wtA];omega⟩
  ·rintro ⟨a,ha,e3,rfl⟩
   obtain⟨q,hq,h1,b,hb,e1,rfl⟩:=(hgm _).1 ha
   simp only[labA,Prod.mk.injEq]at e1;exact⟨q,hq,h1,b,hb,e1.1,e1.2,e3,by simp only[wtA];omega⟩
 have hto:∀ a ∈ g,∃ t:Nat,a.2.2.2=(t:Int)∧t<m.2.length:=fun a ha=>by
  obtain⟨q,hq,h1,b,hb,_,rfl⟩:=(hgm _).1 ha
  exact(jjb0 hf hq hb).2.2
 have hlow:∀ t c,c ∈ cosL m.2 S i0 o0 t→0≤c∧c<noneI:=fun t c h=>by
  have h1:=cos_low hf hS (W:=1000000000) (fun q a ha=>by
   by_cases hq:q<m.2.length
   ·exact (jjb0 hf hq ha).2.1
   ·rw [show el m.2 q=default by simp[el,List.getElem?_eq_none (Nat.le_of_not_lt hq)]]at ha
    exact absurd ha (by show ¬ a ∈ ([]:List Ar);simp)) h
  omega
 have hW:mnL (g.map fun a=>a.2.2.1)=mnL (behL m.2 S i0 o0):=by
  have hge:∀ a ∈ g,mnL (behL m.2 S i0 o0)≤a.2.2.1:=fun a ha=>by
   obtain⟨t,ht,htl⟩:=hto a ha
   have h1:=jjci ((hcos t a.2.2.1).2 ⟨a,ha,ht,rfl⟩);have h2:mnL (behL m.2 S i0 o0)≤el (behL m.2 S i0 o0) t:=jjci (jjac (by rw[jjej];exact htl));rw[beh_el htl]at h2;omega
  refine mnL_one (mnL_none _) (fun c hc'=>?_) (.inl ?_)
  ·obtain ⟨a,ha,rfl⟩:=List.mem_map.1 hc'
   exact hge a ha
  ·have ha0:=jjac hg0
   obtain⟨t0,ht0,htl0⟩:=hto _ ha0
   have hlt:=hge _ ha0;have hl0:=(hlow t0 _ ((hcos t0 _).2 ⟨_,ha0,ht0,rfl⟩)).2;rcases jjce (behL m.2 S i0 o0)with h | h
   ·omega
   ·obtain ⟨t,ht,e⟩:=jja1 h
    rw[jjej]at ht;rw[beh_el ht]at e;rcases jjce (cosL m.2 S i0 o0 t)with h1 | h1
    ·omega
    ·rw [e]at h1
     obtain⟨a,ha,_,e2⟩:=(hcos t _).1 h1
     rw[e2];exact List.mem_map.2 ⟨a,ha,rfl⟩
 have hw0:(hopC m.2 S (i0,o0)).2.2.1=mnL (behL m.2 S i0 o0):=rfl;refine⟨by rw[hgl];exact hp.1,hg0,rfl,hW.trans hw0.symm,?_⟩
 rw[hw0];have hs4:(hopC m.2 S (i0,o0)).2.2.2=subS (behL m.2 S i0 o0) (mnL (behL m.2 S i0 o0)):=rfl;rw[hs4];obtain⟨x,hx⟩:∃ x,mnL (behL m.2 S i0 o0)=x:=⟨_,rfl⟩
 rw[hx];refine par_one (hG.pairT x _ (Nat.le_refl _)) fun q=>?_
 have hsl:(subS (behL m.2 S i0 o0) x).length=m.2.length:=by simp[subS,behL]
 have hsel:∀ t,t<m.2.length→el (subS (behL m.2 S i0 o0) x) t=if mnL (cosL m.2 S i0 o0 t)=noneI then noneI else mnL (cosL m.2 S i0 o0 t)-x:=fun t ht=>by
  rw[sub_el (by rw[jjej];exact ht),beh_el ht]
 have hx0:∀ t c,c ∈ cosL m.2 S i0 o0 t→t<m.2.length→x≤c:=fun t c h ht=>by
  rw[← hx];have h2:mnL (behL m.2 S i0 o0)≤el (behL m.2 S i0 o0) t:=jjci (jjac (by rw[jjej];exact ht));rw[beh_el ht]at h2
  have:=jjci h;omega
 have hx00:0≤x:=by
  rw[← hx];rcases jjce (behL m.2 S i0 o0)with h | h
  ·rw [h];decide
  ·obtain ⟨t,ht,e⟩:=jja1 h
   rw[jjej]at ht;rw[beh_el ht]at e;rcases jjce (cosL m.2 S i0 o0 t)with h1 | h1
   ·rw [← e,h1];decide
   ·rw [e]at h1
    exact(hlow t _ h1).1
 rw[hG.memT,mem_parL,hsl];constructor
 ·rintro ⟨j,hj,hm,rfl⟩
  obtain⟨t,ht,htl⟩:=hto _ (jjac hj)
  have hin:=(hcos t _).2 ⟨_,jjac hj,ht,rfl⟩;have hmn:mnL (cosL m.2 S i0 o0 t)=(el g j).2.2.1:=by
   refine mnL_one (by have:=(hlow t _ hin).2;omega) (fun c hc'=>?_) (.inl hin)
   obtain⟨a,ha,e1,rfl⟩:=(hcos t c).1 hc'
   obtain⟨k,hk,rfl⟩:=jja1 ha
   exact hm k hk (by rw[e1,ht])
  have h1:=hlow t _ hin;have hne:(el g j).2.2.1≠noneI:=by omega
  have hE:el (subS (behL m.2 S i0 o0) x) t=(el g j).2.2.1-x:=by rw[hsel t htl,hmn,if_neg hne]
  exact⟨t,htl,by rw[hE];omega,by rw[hE,ht]⟩
 ·rintro ⟨t,htl,h1,rfl⟩
  have hE:=hsel t htl;by_cases e:mnL (cosL m.2 S i0 o0 t)=noneI
  ·rw [if_pos e]at hE;exact absurd hE h1
  ·rw [if_neg e]at hE
   rcases jjce (cosL m.2 S i0 o0 t)with h | h
   ·exact absurd h e
   ·obtain ⟨a,ha,e1,e2⟩:=(hcos t _).1 h
    obtain⟨k,hk,rfl⟩:=jja1 ha
    refine⟨k,hk,fun j hj ej=>?_,?_⟩
    ·rw [← e2]
     exact jjci ((hcos t _).2 ⟨_,jjac hj,by rw[ej,e1],rfl⟩)
    ·rw [hE,e1,e2]
def fnsP (l:List St)(ps:List Pa):List Int:=ps.flatMap fun p=>if (el l p.1.toNat).1=1000000001 then[] else[p.2+(el l p.1.toNat).1]
theorem fnsP_take {l:List St}{ps:List Pa}{k:Nat}(h:k<ps.length):fnsP l (ps.take (k+1))=fnsP l (ps.take k)++(if(el l (el ps k).1.toNat).1=1000000001 then[] else[(el ps k).2+(el l (el ps k).1.toNat).1]):=by
 unfold fnsP;rw[jja0 h,List.flatMap_append];simp
theorem fnsP_par {l:List St}{S:List Int}(h:S.length=l.length):fnsP l (parL S)=fnsL l S:=by
 unfold fnsP fnsL parL parU;rw[h,List.flatMap_assoc];congr 1
 funext q
 by_cases e:el S q=noneI
 ·rw [if_pos e,if_pos (.inl e)];rfl
 ·rw [if_neg e]
  by_cases g:(el l q).1=1000000001
  ·rw [if_pos (.inr g)];simp[g]
  ·rw [if_neg (fun k=>k.elim e g)];simp[g]
def toX (y:Int):Int:=if y=noneI then 9223372036854775807 else y
theorem toX_min {y c:Int}(hy:y≤noneI)(hc:c<noneI)(hc2:c<9223372036854775807):(if c<toX y then c else toX y)=toX (if c<y then c else y):=by
 unfold toX;by_cases e:y=noneI
 ·subst e
  rw[if_pos rfl,if_pos hc2,if_pos hc,if_neg (by omega)]
 ·rw [if_neg e]
  by_cases g:c<y
  ·rw [if_pos g,if_neg (by omega)]
  ·rw [if_neg g,if_neg e]
theorem fnsP_step {l:List St}{ps:List Pa}{k:Nat}(h:k<ps.length){p:Pa}(hp:el ps k=p){f:Int}(hf:(el l p.1.toNat).1=f)(h0:0≤p.2)(h1:p.2≤1000000000000)(f0:0≤f)(f1:f≤1000000001):
  mnL (fnsP l (ps.take (k+1)))=if f=1000000001 then mnL (fnsP l (ps.take k)) else if p.2+f<mnL (fnsP l (ps.take k)) then p.2+f else mnL (fnsP l (ps.take k)):=by
 rw[fnsP_take h,hp,hf];by_cases e:f=1000000001
 ·rw [if_pos e,if_pos e,List.append_nil]
 ·rw [if_neg e,if_neg e,mnL_snoc]
  unfold noneI;omega
end Pl
namespace Wt
open ChangeShapes WideShapes ChangeAt RowKit Pl
theorem finalOf_any (vm:Value)(m:Mc)(base:Nat)(v:Value)(ps:List Pa)(w:World)(hM:Mach w vm m)(hf:faultM m=0)(h:OwnP w base v ps)(hs:∀ p ∈ ps,SmP m.2.length 1000000000000 p)(hl:ps.length≤1000)(r0 r1:Int)(hr0:tldN (mnL (fnsP m.2 ps))=r0)(hr1:tldE (mnL (fnsP m.2 ps))=r1):
  Calls Tryz.prog 106 #[vm,v] w fun e w'=>e= .returned (.tuple #[.int .i64 r0,.int .i64 r1])∧Below w.heap.size w w':=by
 obtain⟨z,l⟩:=m
 simp only at hs hr0 hr1;obtain⟨vs,rfl,hSt⟩:=hM
 obtain⟨a,cap,rfl,hc⟩:=hSt.get
 simp only at hc ⊢;have HC:=hidP hc;have HFB:Hid (∀ q,q<l.length→0≤(el l q).1∧(el l q).1≤1000000001):=fun q hq=>by
  have h1:=(jja7 hf q hq).1;simp[finB,inB]at h1;omega
 have h60:=(jjae hf).1;have HP:=hidP h;have HEL:Hid (∀ k,k<ps.length→SmP l.length 1000000000000 (el ps k)):=fun k hk=>hs _ (jjac hk)
 have HST:Hid (∀ k,k<ps.length→∀ p,el ps k=p→∀ f,(el l p.1.toNat).1=f→0≤p.2→p.2≤1000000000000→0≤f→f≤1000000001→mnL (fnsP l (ps.take (k+1)))=if f=1000000001 then mnL (fnsP l (ps.take k)) else if p.2+f<mnL (fnsP l (ps.take k)) then p.2+f else mnL (fnsP l (ps.take k))):=fun k hk p hp f hf h0 h1 f0 f1=>fnsP_step hk hp hf h0 h1 f0 f1
 have HALL:Hid (mnL (fnsP l (ps.take ps.length))=mnL (fnsP l ps)):=by show _=_;rw[List.take_length]
 obtain⟨av,cv,rfl⟩:=h.sl
 have HB0:Hid (Below w.heap.size w (w.alloc (.cells #[.int .i64 z,.slice a l.length cap] 24))):=(Below.refl _ _).alloc (Nat.le_refl _) _;have HK0:=hidP (Blk.made w #[.int .i64 z,.slice a l.length cap] 24);have HR0:=hidP hr0;have HR1:=hidP hr1;clear h hs hc hSt hf hr0 hr1;obtain⟨n,hn⟩:∃ n,ps.length=n:=⟨_,rfl⟩
 rw[hn]at hl HST HALL HEL ⊢;have HN:=hidP hn;clear hn;obtain⟨nl,hnl⟩:∃ nl,l.length=nl:=⟨_,rfl⟩
 rw[hnl]at HC HFB h60 HEL HB0 HK0 ⊢;clear hnl;go_enter Tryz.func106,Tryz.ntmps106;go_wp2;go_loopw [6,12] (fun s6 i wr=>∃ (k:Nat) (y:Int),k≤n∧s6= .int .i64 (toX y)∧i= .int .i64 k∧y≤noneI∧Hid (mnL (fnsP l (ps.take k))=y)∧Hid (Below w.heap.size w wr)∧Hid (Blk wr w.heap.size #[.int .i64 z,.slice a nl cap] 24)) (fun _ i _=>n-(intOf i).toNat)
 case atStart=>exact ⟨0,noneI,Nat.zero_le _,rfl,rfl,Int.le_refl _,rfl,HB0,HK0⟩
 case round=>
  clear HB0 HK0;obtain⟨k,y,hk,rfl,rfl,hyn,hy,hW,hK⟩:=hrel
  obtain⟨w1,hw1⟩:∃ w1,w1=wr:=⟨_,rfl⟩
  subst hw1;by_cases hlt:k<n
  ·have k0:(0:Int)≤(k:Int):=Int.natCast_nonneg _
   have k1:(k:Int)<(n:Int):=by omega
   obtain⟨b,off,hab,hbl,c0,c1⟩:=HP.out.cell (j:=k) (by rw[HN.out];exact hlt)
   subst hab;have c0:=(hW.out.cell (p:=⟨b,off+k*2,none⟩) hbl).trans c0;have c1:=(hW.out.cell (p:=⟨b,off+k*2+1,none⟩) hbl).trans c1;have hsm:=HEL.out k hlt;have HSK:=hidP (HST.out k hlt);obtain⟨pk,hpk⟩:∃ pk,el ps k=pk:=⟨_,rfl⟩
   rw[hpk]at c0 c1 hsm HSK;have HSK:=hidP (HSK.out pk rfl);clear hpk;obtain⟨p0,p1⟩:=pk
   simp only[SmP]at hsm c0 c1 HSK;obtain⟨t,rfl⟩:∃ t:Nat,p0=(t:Int):=⟨p0.toNat,by omega⟩
   have t0:(0:Int)≤(t:Int):=Int.natCast_nonneg _;have t1:(t:Int)<(nl:Int):=hsm.2.1;obtain⟨b2,off2,va,ha2,hb2,x0,_⟩:=HC.out t (by omega)
   subst ha2;have x0:=(hW.out.cell (p:=⟨b2,off2+t*2,none⟩) hb2).trans x0;have hfb:=HFB.out t (by omega);simp only[Int.toNat_natCast]at HSK;obtain⟨f,hf⟩:∃ f,(el l t).1=f:=⟨_,rfl⟩
   rw[hf]at x0 hfb;have HSK:=hidP (HSK.out f hf hsm.2.2.1 hsm.2.2.2 hfb.1 hfb.2);rw[hy.out]at HSK;clear hf;have hlW:=hW.out.size;have hlK:=hK.out.lt;have hA:=(Below.refl w1.heap.size w1).alloc (Nat.le_refl _) (.cells #[.int .i64 (t:Int),.int .i64 p1] 92);have W1:=hidP (hW.out.trans (hA.mono hW.out.size));have K1:=hidP (hK.out.alloc (.cells #[.int .i64 (t:Int),.int .i64 p1] 92))
   have d1:=hK.out.cell 1 (v:= .slice (some ⟨b2,off2,none⟩) nl cap) rfl;have hbw:b2<w1.heap.size:=by omega
   have hbw3:b<w1.heap.size:=by omega
   by_cases e1:f=1000000001
   ·rw [if_pos e1]at HSK
    have e1':(f !=1000000001)=false:=by rw[e1];rfl
    clear e1;go_wp2;go_roundw
    case rel=>exact ⟨k+1,y,by omega,rfl,by go_num,hyn,HSK,W1,K1⟩
    case measure=>simp [intOf];omega
   ·rw [if_neg e1]at HSK
    have e1':(f !=1000000001)=true:=by simpa using e1
    have hwr:IntKind.i64.wrap (p1+f)=p1+f:=wrapI (by omega) (by omega);have HMN:=hidP (toX_min (y:=y) (c:=p1+f) hyn (by unfold noneI;omega) (by omega));have hmn:min (toX y) (p1+f)=toX (if p1+f<y then p1+f else y):=by rw[← HMN.out];split<;>omega
    have hyn2:(if p1+f<y then p1+f else y)≤noneI:=by split<;>omega
    obtain⟨y2,hy2⟩:∃ y2,(if p1+f<y then p1+f else y)=y2:=⟨_,rfl⟩
    rw[hy2]at HSK HMN hmn hyn2;clear hy2 e1;by_cases hlt2:p1+f<toX y
    ·have hq:p1+f=toX y2:=by rw[← HMN.out,if_pos hlt2]
     have HQ:=hidP hq;clear hq hmn;go_wp2;go_roundw
     case rel=>exact ⟨k+1,y2,by omega,congrArg (Value.int .i64) (by have:=HQ.out;omega),by go_num,hyn2,HSK,W1,K1⟩
     case measure=>simp [intOf];omega
    ·have hq:toX y=toX y2:=by rw[← HMN.out,if_neg hlt2]
     have HQ:=hidP hq;clear hq hmn;go_wp2;go_roundw
     case rel=>exact ⟨k+1,y2,by omega,congrArg (Value.int .i64) (by have:=HQ.out;omega),by go_num,hyn2,HSK,W1,K1⟩
     case measure=>simp [intOf];omega
  ·have hk1:¬ (k:Int)<(n:Int):=by omega
   obtain rfl:k=n:=by omega
   rw[hy.out]at HALL;rw[← HALL.out]at HR0 HR1;unfold tldN at HR0;unfold tldE at HR1;unfold toX;by_cases e1:y=noneI
   ·rw [if_pos e1]at HR0 HR1 ⊢
    have q0:r0=1000000001:=HR0.out.symm;have q1:r1=0:=HR1.out.symm;subst q0 q1;clear e1 hy HALL;go_wp2;go_ret2;exact⟨rfl,hW.out⟩
   ·rw [if_neg e1]at HR0 HR1 ⊢
    have e1':(y==9223372036854775807)=false:=by unfold noneI at hyn;simp;omega
    by_cases e2:1000000000<y
    ·rw [if_pos e2]at HR0 HR1
     have q0:r0=0:=HR0.out.symm;have q1:r1=4:=HR1.out.symm;subst q0 q1;clear e1 hy HALL;go_wp2;go_ret2;exact⟨rfl,hW.out⟩
    ·rw [if_neg e2]at HR0 HR1
     have q0:r0=y:=HR0.out.symm;have q1:r1=0:=HR1.out.symm;subst q0 q1;clear e1 hy HALL;go_wp2;go_ret2;exact⟨rfl,hW.out⟩
end Go.Proofs.YtppkiejhhmahcaaGreatDoor.Wt
