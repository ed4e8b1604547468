/- Facts, joined. -/
import Derived.Test.YtppkiejhhmahcaaGreatDoorSaI
set_option linter.unusedSimpArgs false
set_option linter.unusedVariables false
set_option maxHeartbeats 3200000
set_option maxRecDepth 100000
namespace Go.Proofs.YtppkiejhhmahcaaGreatDoor.Pl
def SpreadC (n:Nat)(F:List Int)(L:Nat→List Int)(T:Nat→Prop):Prop:=(∀ x ∈ F,T x.toNat)∧∀ q,q<n→T q→∀ y ∈ L q,T y.toNat
structure Dfs (n M K:Nat)(F:List Int)(L:Nat→List Int)(bs:List Bool)(ws:List Int):Prop where
 len:bs.length=n
 inn:∀ x ∈ ws,0≤x∧x<n
 sound:∀ T,SpreadC n F L T→(∀ q,q<n→el bs q=true→T q)∧∀ x ∈ ws,T x.toNat
 first:∀ x ∈ F,el bs x.toNat=true∨x ∈ ws
 next:∀ q,q<n→el bs q=true→∀ y ∈ L q,el bs y.toNat=true∨y ∈ ws
 room:bs.count false*(M+1)+ws.length≤K
section
variable {n M K:Nat} {F:List Int} {L:Nat→List Int} {bs:List Bool} {ws:List Int}
theorem Dfs.start (hF:∀ x ∈ F,0≤x∧x<(n:Int))(hK:n*(M+1)+F.length≤K):Dfs n M K F L (List.replicate n false) F:=
 ⟨by simp,hF,fun T hT=>⟨fun q _ e=>absurd e (by rw[el_false];simp),hT.1⟩,fun x hx=> .inr hx,fun q _ e=>absurd e (by rw[el_false];simp),by rw[List.count_replicate];simpa using hK⟩
theorem jjcg {k:Nat}{x:Int}(hk:ws.length=k+1):x ∈ ws↔x ∈ ws.take k∨x=el ws k:=by
 have h:=jja0 (l:=ws) (k:=k) (by omega);rw[← hk,List.take_length]at h;conv=>lhs;rw[h]
 simp
theorem Dfs.skip (h:Dfs n M K F L bs ws){k:Nat}(hk:ws.length=k+1)(hf:el bs (el ws k).toNat=true):Dfs n M K F L bs (ws.take k):=by
 refine⟨h.len,fun x hx=>h.inn x ((jjcg hk).2 (.inl hx)),fun T hT=>⟨(h.sound T hT).1,fun x hx=>(h.sound T hT).2 x ((jjcg hk).2 (.inl hx))⟩,fun x hx=>?_,fun q hq e y hy=>?_,?_⟩
 ·rcases h.first x hx with h1 | h1
  ·exact .inl h1
  ·rcases (jjcg hk).1 h1 with h2 | h2
   ·exact .inr h2
   ·exact .inl (by rw[h2];exact hf)
 ·rcases h.next q hq e y hy with h1 | h1
  ·exact .inl h1
  ·rcases (jjcg hk).1 h1 with h2 | h2
   ·exact .inr h2
   ·exact .inl (by rw[h2];exact hf)
 ·have:=h.room
  rw[List.length_take];omega
theorem jje9 {q:Nat}(hq:q<bs.length)(hf:el bs q=false):(bs.set q true).count false+1=bs.count false:=by
  induction bs generalizing q with
  | nil=>simp at hq
  | cons b l ih=>
    cases q with
    | zero=>
      rw[jjbj]at hf;subst hf;simp
    | succ q=>
      rw[jjbt]at hf
      have:=ih (q:=q) (by simpa using hq) hf;rw[List.set_cons_succ,List.count_cons,List.count_cons];omega
theorem Dfs.step (h:Dfs n M K F L bs ws){k q:Nat}(hk:ws.length=k+1)(hx:el ws k=(q:Int))(hf:el bs q=false)(hL:∀ y ∈ L q,0≤y∧y<(n:Int))(hM:(L q).length≤M):Dfs n M K F L (bs.set q true) (ws.take k++L q):=by
 have hin:=h.inn (el ws k) (jjac (by omega));have hq:q<n:=by omega
 have hqb:q<bs.length:=by rw[h.len];exact hq
 refine⟨by simpa using h.len,fun x hx'=>?_,fun T hT=>?_,fun x hx'=>?_,fun p hp e y hy=>?_,?_⟩
 ·rcases List.mem_append.1 hx' with h1 | h1
  ·exact h.inn x ((jjcg hk).2 (.inl h1))
  ·exact hL x h1
 ·have hTq:T q:=by
   have:=(h.sound T hT).2 (el ws k) (jjac (by omega));rw[hx]at this;simpa using this
  refine⟨fun p hp e=>?_,fun x hx'=>?_⟩
  ·rw [el_setB hqb]at e
   split at e
   ·rename_i e9;subst e9;exact hTq
   ·exact (h.sound T hT).1 p hp e
  ·rcases List.mem_append.1 hx' with h1 | h1
   ·exact (h.sound T hT).2 x ((jjcg hk).2 (.inl h1))
   ·exact hT.2 q hq hTq x h1
 ·rw [el_setB hqb]
  split
  ·exact .inl rfl
  ·rename_i e9
   rcases h.first x hx' with h1 | h1
   ·exact .inl h1
   ·rcases (jjcg hk).1 h1 with h2 | h2
    ·exact .inr (List.mem_append.2 (.inl h2))
    ·exact absurd (by rw[h2,hx];simp) e9
 ·rw [el_setB hqb]at e ⊢
  split
  ·exact .inl rfl
  ·rename_i e9
   split at e
   ·rename_i e8;subst e8;exact .inr (List.mem_append.2 (.inr hy))
   ·rcases h.next p hp e y hy with h1 | h1
    ·exact .inl h1
    ·rcases (jjcg hk).1 h1 with h2 | h2
     ·exact .inr (List.mem_append.2 (.inl h2))
     ·exact absurd (by rw[h2,hx];simp) e9
 ·have h1:=h.room
  have h2:=jje9 hqb hf;rw[← h2]at h1;rw[List.length_append,List.length_take];rw[Nat.add_mul]at h1;omega
theorem Dfs.done (h:Dfs n M K F L bs []):Least (SpreadC n F L) n bs:=by
 refine⟨h.len,⟨fun x hx=>?_,fun q hq e y hy=>?_⟩,fun T hT=>(h.sound T hT).1⟩
 ·rcases h.first x hx with h1 | h1
  ·exact h1
  ·simp at h1
 ·rcases h.next q hq e y hy with h1 | h1
  ·exact h1
  ·simp at h1
theorem Least.iff {C D:(Nat→Prop)→Prop}{bs:List Bool}(h:Least C n bs)(hCD:∀ T,C T↔D T):Least D n bs:=⟨h.1,(hCD _).1 h.2.1,fun T hT=>h.2.2 T ((hCD T).2 hT)⟩
end
def toL (l:List St)(q:Nat):List Int:=(el l q).2.map fun a=>a.2.2.2
def startL (z:Int):List Int:=if z<0 then[] else[z]
theorem ahead_spread {z:Int}{l:List St}(hz:z<l.length)(T:Nat→Prop):SpreadC l.length (startL z) (toL l) T↔AheadC z l T:=by
 unfold SpreadC AheadC startL toL;constructor
 ·rintro ⟨h1,h2⟩
  refine⟨fun q hq e=>?_,fun q hq e a ha=>h2 q hq e _ (List.mem_map.2 ⟨a,ha,rfl⟩)⟩
  have:=h1 z (by rw[if_neg (by omega)];simp);rw[← e]at this;simpa using this
 ·rintro ⟨h1,h2⟩
  refine⟨fun x hx=>?_,fun q hq e y hy=>?_⟩
  ·split at hx
   ·simp at hx
   ·simp at hx
    subst hx;exact h1 _ (by omega) (by omega)
  ·obtain ⟨a,ha,rfl⟩:=List.mem_map.1 hy
   exact h2 q hq e a ha
def endL (l:List St)(n:Nat):List Int:=((List.range n).filter fun q=>decide ((el l q).1≠1000000001)).map fun q:Nat=>(q:Int)
theorem endL_succ (l:List St)(n:Nat):endL l (n+1)=endL l n++(if(el l n).1≠1000000001 then[(n:Int)] else[]):=by
 unfold endL;rw[List.range_succ,List.filter_append,List.map_append];by_cases h:(el l n).1=1000000001<;>simp [h]
theorem endL_le (l:List St)(n:Nat):(endL l n).length≤n:=by
 unfold endL;rw[List.length_map];exact Nat.le_trans (List.length_filter_le _ _) (by simp)
theorem endL_mem {l:List St}{n:Nat}{x:Int}:x ∈ endL l n↔∃ q:Nat,x=(q:Int)∧q<n∧(el l q).1≠1000000001:=by
 unfold endL;simp only[List.mem_map,List.mem_filter,List.mem_range,decide_eq_true_eq];constructor
 ·rintro ⟨q,⟨h1,h2⟩,rfl⟩;exact⟨q,rfl,h1,h2⟩
 ·rintro ⟨q,rfl,h1,h2⟩;exact⟨q,⟨h1,h2⟩,rfl⟩
def putT (t q:Nat)(f:Nat→List Int):Nat→List Int:=fun p=>if p=t then f p++[(q:Int)] else f p
def fillA (q:Nat)(ar:List Ar)(f:Nat→List Int):Nat→List Int:=ar.foldl (fun f a=>putT a.2.2.2.toNat q f) f
def fillS (l:List St)(n:Nat):Nat→List Int:=(List.range n).foldl (fun f q=>fillA q (el l q).2 f) (fun _=>[])
theorem jjd8 (l:List St)(n:Nat):fillS l (n+1)=fillA n (el l n).2 (fillS l n):=by
 unfold fillS;rw[List.range_succ,List.foldl_append];rfl
theorem fillA_take (q:Nat){ar:List Ar}{k:Nat}(h:k<ar.length)(f:Nat→List Int):fillA q (ar.take (k+1)) f=putT (el ar k).2.2.2.toNat q (fillA q (ar.take k) f):=by
 unfold fillA;rw[jja0 h,List.foldl_append];rfl
theorem fillA_mem {q:Nat}{ar:List Ar}{f:Nat→List Int}{p:Nat}{x:Int}:x ∈ fillA q ar f p↔x ∈ f p∨(x=(q:Int)∧∃ a ∈ ar,a.2.2.2.toNat=p):=by
  induction ar generalizing f with
  | nil=>simp [fillA]
  | cons a ar ih=>
    have:fillA q (a::ar) f=fillA q ar (putT a.2.2.2.toNat q f):=rfl;rw[this,ih];unfold putT;by_cases e:p=a.2.2.2.toNat
    · rw[if_pos e]
      simp only[List.mem_append,List.mem_cons,List.not_mem_nil,or_false];constructor
      · rintro((h | h) | ⟨h1,b,hb,h2⟩)
        · exact .inl h
        · exact .inr ⟨h,a,.inl rfl,e.symm⟩
        · exact .inr ⟨h1,b,.inr hb,h2⟩
      · rintro(h | ⟨h1,b,hb | hb,h2⟩)
        · exact .inl (.inl h)
        · exact .inl (.inr h1)
        · exact .inr ⟨h1,b,hb,h2⟩
    · rw[if_neg e]
      simp only[List.mem_cons];constructor
      · rintro(h | ⟨h1,b,hb,h2⟩)
        · exact .inl h
        · exact .inr ⟨h1,b,.inr hb,h2⟩
      · rintro(h | ⟨h1,b,hb | hb,h2⟩)
        · exact .inl h
        · subst hb;exact absurd h2.symm e
        · exact .inr ⟨h1,b,hb,h2⟩
theorem fillS_mem {l:List St}{n p:Nat}{x:Int}:x ∈ fillS l n p↔∃ q:Nat,x=(q:Int)∧q<n∧∃ a ∈ (el l q).2,a.2.2.2.toNat=p:=by
  induction n with
  | zero=>simp [fillS]
  | succ n ih=>
    rw[jjd8,fillA_mem,ih];constructor
    · rintro(⟨q,h1,h2,h3⟩ | ⟨h1,h2⟩)
      · exact⟨q,h1,by omega,h3⟩
      · exact⟨n,h1,by omega,h2⟩
    · rintro⟨q,h1,h2,h3⟩
      by_cases e:q=n
      · subst e;exact .inr ⟨h1,h3⟩
      · exact .inl ⟨q,h1,by omega,h3⟩
theorem fillA_len (q:Nat)(ar:List Ar)(f:Nat→List Int)(p:Nat):(fillA q ar f p).length≤(f p).length+ar.length:=by
  induction ar generalizing f with
  | nil=>simp [fillA]
  | cons a ar ih=>
    have:fillA q (a::ar) f=fillA q ar (putT a.2.2.2.toNat q f):=rfl;rw[this]
    have:=ih (f:=putT a.2.2.2.toNat q f);unfold putT at this ⊢;simp only[List.length_cons];split at this<;>simp at this ⊢ <;>omega
theorem fillS_len (l:List St)(n p:Nat)(hn:n≤l.length):(fillS l n p).length≤arcN (l.take n):=by
  induction n with
  | zero=>simp [fillS]
  | succ n ih=>
    rw[jjd8,jjbf (by omega)]
    have:=fillA_len n (el l n).2 (fillS l n) p
    have:=ih (by omega);omega
theorem back_spread {l:List St}(ht:∀ q,q<l.length→∀ a ∈ (el l q).2,∃ t:Nat,a.2.2.2=(t:Int)∧t<l.length)(T:Nat→Prop):SpreadC l.length (endL l l.length) (fillS l l.length) T↔BackC l T:=by
 unfold SpreadC BackC;constructor
 ·rintro ⟨h1,h2⟩
  refine⟨fun q hq e=>?_,fun q hq a ha e=>?_⟩
  ·simpa using h1 (q:Int) (endL_mem.2 ⟨q,rfl,hq,e⟩)
  ·obtain ⟨t,h3,h4⟩:=ht q hq a ha
   rw[h3]at e;simp only[Int.toNat_natCast]at e;simpa using h2 t h4 e (q:Int) (fillS_mem.2 ⟨q,rfl,hq,a,ha,by rw[h3];simp⟩)
 ·rintro ⟨h1,h2⟩
  refine⟨fun x hx=>?_,fun p hp e y hy=>?_⟩
  ·obtain ⟨q,rfl,hq,e⟩:=endL_mem.1 hx
   simpa using h1 q hq e
  ·obtain ⟨q,rfl,hq,a,ha,h3⟩:=fillS_mem.1 hy
   simpa using h2 q hq a ha (by rw[h3];exact e)
end Pl
namespace Wt
open ChangeShapes WideShapes ChangeAt RowKit Pl
theorem infoIntS :(Tryz.prog.info? 3).map (fun i=>(i.zero,i.size,i.bytes))=some (some (.int .i64 0),1,8):=by kernel_rfl
theorem run_boolsS (n:Nat)(hn:n≤1000)(W:World):(Instr.makeSlice 72 (.int .i64 (n:Int)) (.int .i64 (n:Int))).run Tryz.prog W= .ok (.slice (some ⟨W.heap.size,0,none⟩) n n) (W.alloc (.cells ((List.replicate n false).map Value.bool).toArray 4)):=by
 obtain⟨i1,hi1,hy0,hy1,hy2⟩:=info_parts infoBool
 have h:=run_make (P:=Tryz.prog) W 72 4 i1 _ Tryz.underlying72 hi1 hy0 .i64 .i64 n n (by omega) (by omega) (by rw[hy2];omega) (by omega);rw[hy1,Int.toNat_natCast,made_bools]at h;exact h
def AskL (g:Nat)(lb:Array Value)(L:Nat→List Int)(n:Nat)(w:World)(r:Option Nat):Prop:=
 (∀ ar W,(callFunc g ar).run Tryz.prog W= .ok (.enter g ar) W)∧
 ∀ q,q<n→∀ W:World,w.grownBy W r→Calls Tryz.prog g (#[.int .i64 (q:Int)]++lb) W fun e w'=>∃ v',e= .returned v'∧Nums w' v' (L q)∧Below W.heap.size W w'
theorem spread_any (n:Nat)(v:Value)(F:List Int)(g:Nat)(lb:Array Value)(L:Nat→List Int)(base:Nat)(w:World)(hF:w.ownsRow base 3 1 v F.length (F.flatMap encI1))(hbase:base≤w.heap.size)(h60:n≤60)(hFn:∀ x ∈ F,0≤x∧x<(n:Int))(hFl:F.length≤60)(hg:AskL g lb L n w v.ownBlock)(hLn:∀ q,q<n→∀ y ∈ L q,0≤y∧y<(n:Int))(hLl:∀ q,q<n→(L q).length≤400):
  Calls Tryz.prog 82 #[.int .i64 (n:Int),v,.func (.func g) #[] lb] w fun e w'=>∃ v',e= .returned v'∧(∃ bs,Bools w' v' bs∧Least (SpreadC n F L) n bs)∧w.grownBy w' v.ownBlock:=by
 obtain⟨i1,hi1,hy0,hy1,hy2⟩:=info_parts infoIntS
 obtain⟨eg,hg⟩:=hg
 have HG:Hid (∀ q,q<n→∀ W:World,w.grownBy W v.ownBlock→Calls Tryz.prog g (#[.int .i64 (q:Int)]++lb) W fun e w'=>∃ v',e= .returned v'∧Nums w' v' (L q)∧Below W.heap.size W w'):=hg;have HLN:Hid (∀ q,q<n→∀ y ∈ L q,0≤y∧y<(n:Int)):=hLn;have HLL:Hid (∀ q,q<n→(L q).length≤400):=hLl;have HF:Hid (w.ownsRow base 3 1 v F.length (F.flatMap encI1)):=hF
 have HD0:Hid (Dfs n 400 30000 F L (List.replicate n false) F):=Dfs.start hFn (by omega);have hmk:=run_boolsS n (by omega);have hnot:∀ (x:Bool) (w:World),(Op.unary .not (.bool x)).run Tryz.prog w= .ok (.bool (!x)) w:=fun _ _=>rfl
 clear hF hg hLn hLl hFn;generalize hr:v.ownBlock=r at *;have HNR:Hid (Near w r v):= .inl hr;clear hr;go_enter Tryz.func82,Tryz.ntmps82;go_wp2
 go_loopw [8] (fun s8 wr=>∃ (bs:List Bool) (ws:List Int) (vo:Value),vo=s8∧Hid (Dfs n 400 30000 F L bs ws)∧Hid (wr.ownsRow base 3 1 vo ws.length (ws.flatMap encI1))∧Hid (Near w r vo)∧Hid (Blk wr w.heap.size (bs.map Value.bool).toArray 4)∧Hid (w.grownBy wr r)) (fun s8 wr=>falses wr w.heap.size*401+lenV s8)
 case atStart=>exact ⟨_,F,v,rfl,HD0,HF.out.alloc _,HNR,by (show Blk _ _ _ _);rw[show (List.map Value.bool (List.replicate n false)).toArray=Array.replicate n (Value.bool false) from by simp];exact Blk.made _ _ _,gNew ((Below.refl _ _).alloc (Nat.le_refl _) _)⟩
 case round=>
  obtain⟨bs,ws,vo,rfl,hd,hown,hnear,hblk,hgr⟩:=hrel
  obtain⟨a,cap,hvo⟩:=jjbx hown.out
  subst hvo;by_cases hz:ws.length=0
  ·have hwz:ws=[]:=List.eq_nil_of_length_eq_zero hz
   have HLS:Hid (Least (SpreadC n F L) n bs):=by have h9:=hd.out;rw[hwz]at h9;exact h9.done
   have HBL:Hid (Bools wr (.slice (some ⟨w.heap.size,0,none⟩) n n) bs):=by have h9:=bools_block (cap:=n) hblk.out;rw[hd.out.len]at h9;exact h9
   have hz':((ws.length:Nat):Int)=0:=by omega
   clear hwz;go_wp2;go_ret;exact⟨_,rfl,⟨bs,HBL.out,HLS.out⟩,hgr.out⟩
  ·obtain ⟨k,hk⟩:∃ k,ws.length=k+1:=⟨ws.length-1,by omega⟩
   obtain⟨gb,hga,hnc,hcut⟩:=own_cut (k:=k) hown.out (by omega)
   subst hga;have hin:=hd.out.inn (el ws k) (jjac (by omega));have c0:=own_num hown.out (j:=k) (by omega);obtain⟨q,hq⟩:∃ q:Nat,el ws k=(q:Int):=⟨(el ws k).toNat,by omega⟩
   rw[hq]at hin c0;have hqn:q<n:=by omega
   have hroom:=hd.out.room;rw[hk]at hroom;have HCUT:Hid (wr.ownsRow base 3 1 (.slice (some ⟨gb,0,none⟩) k cap) k ((ws.take k).flatMap encI1)):=hcut;have HNC:Hid (Near w r (.slice (some ⟨gb,0,none⟩) k cap)):=hnear.out;have HFL:Hid (falses wr w.heap.size=bs.count false):=jjd7 hblk.out;have HTK:Hid ((ws.take k).length=k):=by show _=_;rw[List.length_take];omega
   have y0:=jjdr hblk.out (j:=q) (by rw[hd.out.len];exact hqn);have y1:=hblk.out.fz q;have k1:(0:Int)<(k:Int)+1:=by omega
   have k2:(0:Int)≤(k:Int):=by omega
   have k3:(k:Int)<(k:Int)+1:=by omega
   have k4:(k:Int)≤(cap:Int):=by omega
   have k5:IntKind.i64.wrap (k:Int)=(k:Int):=wrapI (by omega) (by omega);have q0:(0:Int)≤(q:Int):=by omega
   have q1:(q:Int)<(n:Int):=by omega
   rcases jjam (el bs q)with hf | hf
   ·have HD2:Hid (Dfs n 400 30000 F L bs (ws.take k)):=hd.out.skip hk (by rw[hq];exact hf)
    rw[hf]at y0;rw[hk];clear hf hown hnear hcut hd hroom hz;go_wp2;go_roundw
    case rel=>exact ⟨bs,ws.take k,_,rfl,HD2,by rw[HTK.out];exact HCUT,HNC,hblk,hgr⟩
    case measure=>simp [lenV]
   ·have HD2:Hid (Dfs n 400 30000 F L (bs.set q true) (ws.take k++L q)):=hd.out.step hk hq hf (HLN.out q hqn) (HLL.out q hqn)
    have HCS:Hid ((bs.set q true).count false+1=bs.count false):=jje9 (by rw[hd.out.len];exact hqn) hf;rw[hf]at y0;rw[hk];have hgne:some w.heap.size≠Value.ownBlock (.slice (some ⟨gb,0,none⟩) k cap):=jjak hcut hblk.out (by decide)
    have HB2:Hid (Blk (wr.setCell ⟨w.heap.size,q,none⟩ (.bool true)) w.heap.size ((bs.set q true).map Value.bool).toArray 4):=by have h9:=hblk.out.set q (.bool true);rw[set_bool]at h9;exact h9
    have HG2:Hid (w.grownBy (wr.setCell ⟨w.heap.size,q,none⟩ (.bool true)) r):=gSetNew hgr.out (Nat.le_refl _) q _;have HO2:Hid ((wr.setCell ⟨w.heap.size,q,none⟩ (.bool true)).ownsRow base 3 1 (.slice (some ⟨gb,0,none⟩) k cap) k ((ws.take k).flatMap encI1)):=hcut.kept (gSet wr w.heap.size q _) (.inr (Ne.symm hgne));have hL4:=HLL.out q hqn
    have HC1:Hid (Calls Tryz.prog g (#[.int .i64 (q:Int)]++lb) (wr.setCell ⟨w.heap.size,q,none⟩ (.bool true)) fun e w'=>∃ v',e= .returned v'∧Nums w' v' (L q)∧Below (wr.setCell ⟨w.heap.size,q,none⟩ (.bool true)).heap.size (wr.setCell ⟨w.heap.size,q,none⟩ (.bool true)) w'):=HG.out q hqn _ HG2.out;clear hf hown hnear hcut hd hblk hgr hz;go_wp2_with (first
     | (go_at_fn g;refine HC1.out.mono ?_;rintro e w' ⟨v',rfl,hnum,hb'⟩;have HNUM:Hid (Nums w' v' (L q)):=hnum;have HB3:Hid (Below _ _ w'):=hb';clear hnum hb';have HO3:Hid (w'.ownsRow base 3 1 (.slice (some ⟨gb,0,none⟩) k cap) k ((ws.take k).flatMap encI1)):=ownBelow HO2.out HB3.out;have HG3:Hid (w.grownBy w' r):=gTrans HG2.out (gNew HB3.out);have HBK3:Hid (Blk w' w.heap.size ((bs.set q true).map Value.bool).toArray 4):=HB2.out.below HB3.out HB2.out.lt)
     | (at_builtin;refine jjd1 jjbg (by decide) jjc6 rfl _ _ 36 rfl base 3 i1 _ 8 Tryz.underlying36 hi1 hy0 hy1 hy2 rfl _ k ((ws.take k).flatMap encI1) rfl HO3.out _ (L q) rfl HNUM.out (by unfold maxLen;omega) (by omega) (Nat.le_trans hbase HG3.out.size) ?_;intro v4 w4 ho4 hg4 hn4;have HO4:Hid (w4.ownsRow base 3 1 v4 (ws.take k++L q).length ((ws.take k++L q).flatMap encI1)):=(by show World.ownsRow _ _ _ _ _ _ _;rw[List.length_append,HTK.out,List.flatMap_append];exact ho4);have HN4:Hid (Near w r v4):=HNC.out.next HG3.out hn4;have HG4:Hid (w.grownBy w4 r):=HNC.out.grown HG3.out hg4;have HB4:Hid (Blk w4 w.heap.size ((bs.set q true).map Value.bool).toArray 4):=HBK3.out.grown hg4 hgne;have hlv:lenV v4=k+(L q).length:=(by obtain⟨a9,c9,h9⟩:=jjbx ho4;rw[h9];rfl);clear ho4 hg4 hn4))
    go_roundw
    case rel=>exact ⟨bs.set q true,ws.take k++L q,_,rfl,HD2,HO4,HN4,HB4,HG4⟩
    case measure=>
     have h1:=jjd7 HB4.out;have h2:=HCS.out;have h3:=HFL.out;rw[h1,h3,← h2];simp[hlv];simp only[lenV];omega
theorem own_num1 (w:World)(x:Int)(base:Nat)(hb:base≤w.heap.size)(e:TypeId):(w.alloc (.cells #[.int .i64 x] e)).ownsRow base e 1 (.slice (some ⟨w.heap.size,0,none⟩) 1 1) [x].length ([x].flatMap encI1):=by
 refine⟨rfl,.inr ⟨w.heap.size,1,#[.int .i64 x],rfl,hb,Blk.made _ _ _,by simp,by unfold maxLen;omega,rfl,rfl⟩⟩
theorem startL_neg {z:Int}(h:z<0):startL z=[]:=by unfold startL;rw[if_pos h]
theorem startL_pos {z:Int}(h:¬ z<0):startL z=[z]:=by unfold startL;rw[if_neg h]
theorem starts_any (z:Int)(vs:Value)(w:World):
  Calls Tryz.prog 83 #[.agg #[.int .i64 z,vs]] w fun e w'=>∃ v',e= .returned v'∧w'.ownsRow w.heap.size 3 1 v' (startL z).length ((startL z).flatMap encI1)∧Below w.heap.size w w':=by
 by_cases hz:z<0
 ·have HE:Hid (startL z=[]):=startL_neg hz
  go_enter Tryz.func83,Tryz.ntmps83;go_wp2;go_ret;exact⟨_,rfl,by rw[HE.out];exact World.ownsRow_nil _ _ _ _,by go_grown⟩
 ·have HE:Hid (startL z=[z]):=startL_pos hz
  go_enter Tryz.func83,Tryz.ntmps83;go_wp2;go_ret;refine⟨_,rfl,?_,by go_grown⟩
  rw[HE.out];have h:=own_num1 (w.alloc (.cells #[.int .i64 z,vs] 24)) z w.heap.size (by simp) 3;simp only[World.size_alloc]at h;exact h
theorem followed_any (z:Int)(vs:Value)(w:World):
  Calls Tryz.prog 84 #[.agg #[.int .i64 z,vs]] w fun e w'=>e= .returned (.func (.func 133) #[] #[.pointer (some ⟨w.heap.size,0,none⟩)])∧Blk w' w.heap.size #[.int .i64 z,vs] 24∧Below w.heap.size w w':=by
 go_enter Tryz.func84,Tryz.ntmps84;go_wp2;go_ret;exact⟨rfl,Blk.made _ _ _,by go_grown⟩
theorem toL_take {ar:List Ar}{j:Nat}(h:j<ar.length):(ar.take (j+1)).map (fun a=>a.2.2.2)=(ar.take j).map (fun a=>a.2.2.2)++[(el ar j).2.2.2]:=by rw[jja0 h];simp
theorem leads_any (z:Int)(vs:Value)(l:List St)(w:World)(h:Mach w (.agg #[.int .i64 z,vs]) (z,l))(hok:okM (z,l))(B:Nat)(hB:Blk w B #[.int .i64 z,vs] 24)(q:Nat)(hq:q<l.length):
  Calls Tryz.prog 133 #[.int .i64 (q:Int),.pointer (some ⟨B,0,none⟩)] w fun e w'=>∃ v',e= .returned v'∧Nums w' v' (toL l q)∧Below w.heap.size w w':=by
 obtain⟨i1,hi1,hy0,hy1,hy2⟩:=info_parts infoIntS
 obtain⟨vs',hvs,hS⟩:=h
 simp only[Value.agg.injEq,Array.mk.injEq,List.cons.injEq,and_true,true_and]at hvs;subst hvs;obtain⟨a,cap,rfl,hc⟩:=hS.get
 obtain⟨b,off,va,rfl,hbl,g0,g1,gA⟩:=hc q hq
 obtain⟨a2,cap2,rfl,hga⟩:=gA.get
 have hL32:=hok.2 q hq;have HGA:Hid (∀ j,j<(el l q).2.length→∃ b off,a2=some ⟨b,off,none⟩∧b<w.heap.size∧w.cell? ⟨b,off+j*4,none⟩=some (.int .i64 (el (el l q).2 j).1)∧w.cell? ⟨b,off+j*4+1,none⟩=some (.int .i64 (el (el l q).2 j).2.1)∧w.cell? ⟨b,off+j*4+2,none⟩=some (.int .i64 (el (el l q).2 j).2.2.1)∧w.cell? ⟨b,off+j*4+3,none⟩=some (.int .i64 (el (el l q).2 j).2.2.2)):=hga
 have c1:=hB.cell 1 (v:= .slice (some ⟨b,off,none⟩) l.length cap) rfl;have q0:(0:Int)≤(q:Int):=by omega
 have q1:(q:Int)<(l.length:Int):=by omega
 have HTL:Hid (toL l q=(el l q).2.map (fun a=>a.2.2.2)):=rfl;clear hS hc gA hga hB g0 hok;simp only at hL32;generalize l.length=n at *;generalize (el l q).2=ar at *;generalize hL:ar.length=L at *;have HL:Hid (ar.length=L):=hL;clear hL;go_enter Tryz.func133,Tryz.ntmps133;go_wp2
 go_loopw [4,14] (fun s4 i wr=>∃ (j:Nat) (vo:Value),j≤L∧vo=s4∧i= .int .i64 j∧Hid (wr.ownsRow w.heap.size 3 1 vo ((ar.take j).map (fun a=>a.2.2.2)).length (((ar.take j).map (fun a=>a.2.2.2)).flatMap encI1))∧Hid (Below w.heap.size w wr)) (fun _ i _=>L-(intOf i).toNat)
 case atStart=>exact ⟨0,_,Nat.zero_le _,rfl,rfl,World.ownsRow_nil _ _ _ _,Below.refl _ _⟩
 case round=>
  obtain⟨j,vo,hj,rfl,rfl,hown,hb⟩:=hrel
  by_cases hjL:j<L
  ·obtain ⟨b3,off3,rfl,hb3l,e0,e1,e2,e3⟩:=HGA.out j hjL
   have e0:=(hb.out.cell (p:=⟨b3,off3+j*4,none⟩) hb3l).trans e0;have e1:=(hb.out.cell (p:=⟨b3,off3+j*4+1,none⟩) hb3l).trans e1;have e2:=(hb.out.cell (p:=⟨b3,off3+j*4+2,none⟩) hb3l).trans e2;have e3:=(hb.out.cell (p:=⟨b3,off3+j*4+3,none⟩) hb3l).trans e3;have HT:Hid ((ar.take (j+1)).map (fun a=>a.2.2.2)=(ar.take j).map (fun a=>a.2.2.2)++[(el ar j).2.2.2]):=toL_take (by rw[HL.out];exact hjL)
   have hkl:((ar.take j).map (fun a=>a.2.2.2)).length≤L:=by rw[List.length_map,List.length_take];omega
   generalize (ar.take j).map (fun a=>a.2.2.2)=ks at *;generalize el ar j=c at *;have hj0:(0:Int)≤(j:Int):=by omega
   have hj1:(j:Int)<(L:Int):=by omega
   have HD:Hid ((wr.alloc (.cells #[.int .i64 c.1,.int .i64 c.2.1,.int .i64 c.2.2.1,.int .i64 c.2.2.2] 56)).ownsRow w.heap.size 3 1 vo ks.length (ks.flatMap encI1)):=hown.out.alloc _;have HDB:Hid (Below w.heap.size w (wr.alloc (.cells #[.int .i64 c.1,.int .i64 c.2.1,.int .i64 c.2.2.1,.int .i64 c.2.2.2] 56))):=hb.out.alloc hb.out.size _;go_wp2_with (first
    | (at_builtin;refine jjav jjbg (by decide) jjc6 rfl _ _ 36 rfl w.heap.size 3 i1 _ 8 Tryz.underlying36 hi1 hy0 hy1 hy2 rfl _ ks.length (ks.flatMap encI1) rfl (HD.out.alloc _) _ [c.2.2.2] rfl (by have h9:=oneRow (enc:=encI1) (wr.alloc (.cells #[.int .i64 c.1,.int .i64 c.2.1,.int .i64 c.2.2.1,.int .i64 c.2.2.2] 56)) c.2.2.2 rfl 3;simp only[World.size_alloc]at h9;exact h9) (by simp;unfold maxLen;omega) (by simp;omega) (by have:=HDB.out.size;simp at this ⊢;omega) ?_;intro v4 w4 ho4 hg4;obtain⟨HO4,HB4,HZ4⟩:=snocFacts HD.out HDB.out.size ho4 hg4;clear ho4 hg4))
   go_roundw
   case rel=>exact ⟨j+1,_,by omega,rfl,by go_num,by rw[HT.out];exact HO4,HDB.out.trans HB4.out⟩
   case measure=>simp [intOf];omega
  ·have hnl:¬ (j:Int)<(L:Int):=by omega
   have HO:Hid (Nums wr vo (ar.map (fun a=>a.2.2.2))):=by
    have h9:=hown.out;rw[show j=ar.length by rw[HL.out];omega,List.take_length]at h9;exact Row.ofOwn jjbg h9 rfl
   go_wp2;go_ret;exact⟨_,rfl,by rw[HTL.out];exact HO.out,hb.out⟩
theorem jjbm {B:Nat}{w w':World}(h:Below B w.drew w'):Below B w w':=⟨h.os,h.tape,h.output,h.size,h.block⟩
theorem st_arcs {l:List St}{j:Nat}(h:j<l.length):(el l j).2.length≤arcN l:=by
 have h1:=jjbf h;have h2:arcN (l.take (j+1))≤arcN l:=by
  conv=>rhs;rw[← List.take_append_drop (j+1) l,jjbd]
  omega
 omega
def HeldB (B:Nat)(z:Int)(v:Value)(w:World):Prop:=Blk w B #[.int .i64 z,v] 24
theorem HeldB.two {B:Nat}{z:Int}{v:Value}{w:World}(h:HeldB B z v w):w.cell? ⟨B,0,none⟩=some (.int .i64 z)∧w.cell? ⟨B,1,none⟩=some v:=⟨h.cell 0 rfl,h.cell 1 rfl⟩
theorem ahead_ok (v:Value)(m:Mc)(w:World)(h:Mach w v m)(hok:okM m)(hr:faultM m=0):
  Calls Tryz.prog 39 #[v] w fun e w'=>∃ v',e= .returned (.tuple #[v',.int .i64 0])∧(∃ bs,Bools w' v' bs∧Least (AheadC m.1 m.2) m.2.length bs)∧Below w.heap.size w w':=by
 obtain⟨z,l⟩:=m
 obtain⟨vs,rfl,hS⟩:=h
 obtain⟨a,cap,rfl⟩:=hS.sl
 have HM:Hid (Mach w (.agg #[.int .i64 z,.slice a l.length cap]) (z,l)):=⟨_,rfl,hS⟩
 have HK:Hid (okM (z,l)):=hok;have HR:Hid (faultM (z,l)=0):=hr;have hz:=(jjax hr).2;simp only[rangeB,Bool.and_eq_true,inB,decide_eq_true_eq]at hz;have HZ:Hid (-1≤z∧z<(l.length:Int)):=⟨hz.1.1,by show z<_;omega⟩
 clear hS hok hr hz;simp only;have hent:=enters_of Tryz.func133 (by kernel_rfl) rfl;generalize hn:l.length=n at *;have HN:Hid (l.length=n):=hn;clear hn;go_enter Tryz.func39,Tryz.ntmps39;go_wp2_with (first
  | (go_at_call 45;(with_reducible refine(jjal _ (z,l) _ (HM.out.later (B:=w.heap.size) (by go_grown) (Nat.le_refl _)) HK.out 0 HR.out).mono ?_);rintro e w1 ⟨rfl,hb⟩;obtain⟨s1,b1,hb1⟩:=boxed hb (by simp);have K0:HeldB w.heap.size z (.slice a n cap) w1:=b1;have HB1:Hid (Below w.heap.size w w1):=hb1;clear b1 hb1 hb))
 have K1:HeldB w.heap.size z (.slice a n cap) w1.drew:=K0.drew;refine jjaf (HeldB w.heap.size z (.slice a n cap)) 1000 (by kernel_rfl) ?_
 refine jjaa (v:=?v0_1) aZ0 ?y0_1 K1 ?r0_1
 case y0_1=>intro wx hx;obtain⟨x0,x1⟩:=hx.two;go_simp;try (with_reducible rfl)
 simp only[Act.put,sA,sB,sC];refine jjaa (v:=?v1_2) aZ1 ?y1_2 K1 ?r1_2
 case y1_2=>intro wx hx;obtain⟨x0,x1⟩:=hx.two;go_simp;try (with_reducible rfl)
 simp only[Act.put,sA,sB,sC];refine jjaa (v:=?v2_3) aZ2 ?y2_3 K1 ?r2_3
 case y2_3=>intro wx hx;obtain⟨x0,x1⟩:=hx.two;go_simp;try (with_reducible rfl)
 simp only[Act.put,sA,sB,sC];refine jjaa (v:=?v3_4) aZ3 ?y3_4 K1 ?r3_4
 case y3_4=>intro wx hx;obtain⟨x0,x1⟩:=hx.two;go_simp;try (with_reducible rfl)
 simp only[Act.put,sA,sB,sC];refine jjaa (v:=?v5_5) aZ5 ?y5_5 K1 ?r5_5
 case y5_5=>intro wx hx;obtain⟨x0,x1⟩:=hx.two;go_simp;try (with_reducible rfl)
 simp only[Act.put,sA,sB,sC];refine jjab aZ4 (fun K hK=>?_)
 go_simp;refine(starts_any _ _ _).mono ?_
 rintro e w2 ⟨v2,rfl,ho2,hb2⟩
 have K2:HeldB w.heap.size z (.slice a n cap) w2:=K1.below hb2 s1;have HB2:Hid (Below w.heap.size w w2):=HB1.out.trans ((jjbm hb2).mono HB1.out.size);have HO2:Hid (w2.ownsRow w1.heap.size 3 1 v2 (startL z).length ((startL z).flatMap encI1)):=ho2;have s2:w1.heap.size≤w2.heap.size:=hb2.size;refine hK _ _ (.inr K2) ?_
 try simp only[Act.put,sA,sB,sC]
 clear hb2 ho2 K0 K1;refine jjab aZ6 (fun K hK=>?_)
 go_simp;refine(followed_any _ _ _).mono ?_
 rintro e w3 ⟨rfl,b3,hb3⟩
 have K3:HeldB w.heap.size z (.slice a n cap) w3:=K2.below hb3 (by omega);have HB3:Hid (Below w.heap.size w w3):=HB2.out.trans (hb3.mono HB2.out.size);have HO3:Hid (w3.ownsRow w1.heap.size 3 1 v2 (startL z).length ((startL z).flatMap encI1)):=ownBelow HO2.out hb3;have s3:w2.heap.size≤w3.heap.size:=hb3.size
 have HASK:Hid (AskL 133 #[.pointer (some ⟨w2.heap.size,0,none⟩)] (toL l) n w3 v2.ownBlock):=by
  refine⟨hent,fun q hq W hW=>?_⟩
  have hBW:Below w.heap.size w W:=HB3.out.trans (gBelow hW (fun k hk=>Nat.le_trans (by omega) (HO2.out.lt k hk).1) HB3.out.size);have hne:some w2.heap.size≠v2.ownBlock:=fun e9=>by have h9:=(HO2.out.lt _ e9.symm).2;omega
  exact leads_any z _ l W (HM.out.later hBW (Nat.le_refl _)) HK.out _ (b3.grown hW hne) q (by rw[HN.out];exact hq)
 refine hK _ _ (.inr K3) ?_
 try simp only[Act.put,sA,sB,sC]
 clear hb3 b3 K2;refine jjab aZ7 (fun K hK=>?_)
 go_simp;refine(spread_any n v2 (startL z) _ _ (toL l) w1.heap.size w3 HO3.out (by omega) (by have h9:=(jjae HR.out).1;rw[HN.out]at h9;exact h9) (fun x hx=>by
   unfold startL at hx
   have h9:=HZ.out
   split at hx
   ·simp at hx
   ·simp at hx;subst hx;omega) (by unfold startL;split<;>simp) HASK.out (fun q hq y hy=>by
   obtain⟨c,hc,rfl⟩:=List.mem_map.1 hy
   have h9:=List.all_eq_true.1 (jjbv HR.out (j:=q) (by rw[HN.out];exact hq)).2 c hc
   rw[HN.out]at h9
   simp only[arcB,inB,Bool.and_eq_true,decide_eq_true_eq]at h9
   omega) (fun q hq=>by
   have h8:=(jjae HR.out).2
   have h9:=st_arcs (l:=l) (j:=q) (by rw[HN.out];exact hq)
   unfold toL
   rw[List.length_map]
   omega)).mono ?_
 rintro e w4 ⟨v4,rfl,⟨bs,hB4,hL4⟩,hg4⟩
 have K4:HeldB w.heap.size z (.slice a n cap) w4:=K3.grown hg4 (fun e9=>by have h9:=(HO2.out.lt _ e9.symm).1;omega);have HB4:Hid (Below w.heap.size w w4):=HB3.out.trans (gBelow hg4 (fun k hk=>Nat.le_trans (by omega) (HO2.out.lt k hk).1) HB3.out.size)
 have HL4:Hid (Least (AheadC z l) n bs):=hL4.iff (fun T=>by have h9:=ahead_spread (z:=z) (l:=l) (by rw[HN.out];exact HZ.out.2) T;rw[HN.out]at h9;exact h9);have HBB:Hid (Bools w4 v4 bs):=hB4;refine hK _ _ (.inr K4) ?_
 try simp only[Act.put,sA,sB,sC]
 clear hB4 hL4 hg4 K3;refine jjab aZ8 (fun K hK=>?_)
 go_simp;refine hK _ _ (.inr K4) ?_
 try simp only[Act.put,sA,sB,sC]
 refine jjab aZ9 (fun K hK=>?_)
 go_simp;refine hK _ _ (.inr K4) (jjad (by kernel_rfl) (NoPanic.normal ?_))
 try simp only[Act.put,sA,sB,sC]
 clear K4;go_wp2;exact bodyPost_ret (v:= .tuple #[v4,.int .i64 0]) (by simp[results,Tryz.results39,go_sem]) rfl ⟨_,rfl,⟨bs,HBB.out,HL4.out⟩,HB4.out⟩
theorem ahead_bad (v:Value)(m:Mc)(w:World)(h:Mach w v m)(hok:okM m)(r:Int)(hr:faultM m=r)(h0:¬ r=0):
  Calls Tryz.prog 39 #[v] w fun e w'=>e= .returned (.tuple #[.slice none 0 0,.int .i64 r])∧Below w.heap.size w w':=by
 obtain⟨z,l⟩:=m
 obtain⟨vs,rfl,hS⟩:=h
 obtain⟨a,cap,rfl⟩:=hS.sl
 have HM:Hid (Mach w (.agg #[.int .i64 z,.slice a l.length cap]) (z,l)):=⟨_,rfl,hS⟩
 have HK:Hid (okM (z,l)):=hok;have HR:Hid (faultM (z,l)=r):=hr;clear hS hok hr;simp only;have hne:(r !=0)=true:=by simpa using h0
 generalize l.length=n at *;go_enter Tryz.func39,Tryz.ntmps39;go_wp2_with (first
  | (go_at_call 45;(with_reducible refine(jjal _ (z,l) _ (HM.out.later (B:=w.heap.size) (by go_grown) (Nat.le_refl _)) HK.out _ HR.out).mono ?_);rintro e w1 ⟨rfl,hb⟩;obtain⟨s1,b1,hb1⟩:=boxed hb (by simp);have HB1:Hid (Below w.heap.size w w1):=hb1;clear b1 hb1 hb))
 exact bodyPost_ret (v:= .tuple #[.slice none 0 0,.int .i64 r]) (by simp[results,Tryz.results39,go_sem]) rfl ⟨rfl,HB1.out⟩
end Go.Proofs.YtppkiejhhmahcaaGreatDoor.Wt
