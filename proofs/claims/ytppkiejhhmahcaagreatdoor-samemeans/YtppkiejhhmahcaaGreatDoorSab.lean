/- Facts, joined. -/
import Derived.OrdersHeld
import Derived.Deep.RegionHeld3
import Derived.BigRegion
import Derived.Maps.OwnSet
import Derived.Test.YtppkiejhhmahcaaGreatDoorSaa
set_option linter.unusedSimpArgs false
set_option linter.unusedVariables false
namespace Go
theorem sA {α:Type}{l:List α}{i:Nat}{a:α}:l.toArray.setIfInBounds i a=(l.set i a).toArray:=List.setIfInBounds_toArray _ _ _
theorem sB {α:Type}{a b:α}{l:List α}:(a::l).set 0 b=b::l:=rfl
theorem sC {α:Type}{a b:α}{l:List α}{n:Nat}:(a::l).set (n+1) b=a::l.set n b:=rfl
end Go
namespace Go.Proofs.YtppkiejhhmahcaaGreatDoor.Wt
open Go
section
variable {P:Program} {ops:Array Oper} {Q:Exit→Act→World→Prop} {md:Region.Mode} {S:World→Prop} {L:Nat}
def AnyL (P:Program)(md:Region.Mode)(ops:Array Oper)(Q:Exit→Act→World→Prop)(S:World→Prop)(L:Nat):Nat→Array Bool→Act→World→Prop
  | 0,listed,a,w=>Region.ready md ops listed=[]∧Q .normal a w
  | n+1,listed,a,w=>(Region.ready md ops listed=[]→Q .normal a w)∧
      ∀ i ∈ Region.ready md ops listed,wpOp P ops Q i (fun b x=>(i=L∨S x)∧AnyL P md ops Q S L n (listed.setIfInBounds i true) b x) a w
theorem AnyL.any :∀ (n:Nat) (listed:Array Bool) (a:Act) (w:World),AnyL P md ops Q S L n listed a w→wpAny P md ops Q n listed a w
 | 0,_,_,_,h=>h
 | n+1,_,_,_,h=>⟨h.1,fun i hi=>wpOp_mono (fun b x k=>AnyL.any n _ b x k.2) (h.2 i hi)⟩
def waits (md:Region.Mode)(ops:Array Oper)(L i:Nat):Bool:=match ops[L]? with
 | some o=>o.after.any fun e=>Region.binds md e&&e.on==i
 | none=>true
theorem waits_spec {i:Nat}(h:waits md ops L i=true){o:Oper}(ho:ops[L]? =some o):∃ e ∈ o.after,Region.binds md e=true∧e.on=i:=by
 unfold waits at h;rw[ho]at h;obtain⟨j,hj,h1⟩:=Array.any_eq_true.1 h
 simp only[Bool.and_eq_true,beq_iff_eq]at h1;exact⟨_,Array.getElem_mem hj,h1.1,h1.2⟩
theorem AnyL.first {i:Nat}{o:Oper}{v:Value}(hi:ops[i]? =some o)(hw:waits md ops L i=true)(hsel:∀ (j:Nat) (p:Oper) cs d,ops[j]? =some p→p.op≠ .select cs d)(hQ:∀ c a w,Q (.panic c) (a.put o.dst v) w→Q (.panic c) a w):
    ∀ (n:Nat) (listed:Array Bool) (a:Act) (w:World),
      (∀ j p,ops[j]? =some p→j≠i→listed.getD j true=false→(∀ e ∈ p.after,Region.binds md e=true→e.on≠i)→o.apart ops p=true)→
      i ∈ Region.ready md ops listed→YieldsIf P ops S o v a→S w→AnyL P md ops Q S L n (listed.setIfInBounds i true) (a.put o.dst v) w→AnyL P md ops Q S L (n+1) listed a w:=by
  intro n;induction n with
  | zero=>
    intro listed a w _ hr hy hS H;refine⟨fun h=>(by rw[h]at hr;cases hr),fun j hj=>?_⟩
    by_cases hji:j=i
    · subst hji;exact hy.wpOp hi hS ⟨.inr hS,H⟩
    · have h1:=ready_mono hj hji
      rw[H.1]at h1;cases h1
  | succ n ih=>
    intro listed a w hfree hr hy hS H;refine⟨fun h=>(by rw[h]at hr;cases hr),fun j hj=>?_⟩
    by_cases hji:j=i
    · subst hji;exact hy.wpOp hi hS ⟨.inr hS,H⟩
    · have h1:=H.2 j (ready_mono hj hji)
      obtain⟨hjun,p,hp,hall⟩:=mem_ready.1 hj
      have hnot:∀ e ∈ p.after,Region.binds md e=true→e.on≠i:=fun e he hb heq=>by
        have k1:=hall e he hb;have k0:=(mem_ready.1 hr).1;rw[heq]at k1;rcases Nat.lt_or_ge i listed.size with g | g
        · simp[g]at k0 k1;rw[k0]at k1;cases k1
        · simp[Array.getElem?_eq_none g]at k1
      have hjL:j≠L:=fun e=>by
        subst e;obtain⟨e,he,hb,hon⟩:=waits_spec hw hp
        exact hnot e he hb hon
      have h2:=wpOp_putIf hp (hfree j p hp hji hjun hnot) (fun cs d=>hsel i o cs d hi) (fun cs d=>hsel j p cs d hp) hQ hy h1;have hri:i ∈ Region.ready md ops (listed.setIfInBounds j true):=ready_mono hr (Ne.symm hji);have hfree2:∀ k q,ops[k]? =some q→k≠i→(listed.setIfInBounds j true).getD k true=false→(∀ e ∈ q.after,Region.binds md e=true→e.on≠i)→o.apart ops q=true:=fun k q hk hki hun hno=>by
        refine hfree k q hk hki ?_ hno
        by_cases hjk:j=k
        · subst hjk;exact hjun
        · rw[getD_set_ne true hjk]at hun;exact hun
      refine wpOp_mono (fun b x h3=>?_) h2
      obtain⟨y,hl,hA⟩:=h3
      rcases hl with hl | hSx
      · exact absurd hl hjL
      · exact⟨.inr hSx,ih (listed.setIfInBounds j true) b x hfree2 hri y hSx (by rw[Array.setIfInBounds_comm _ _ hji];exact hA)⟩
theorem at0 {o:Oper}{l:List Oper}:(o::l).toArray[0]? =some o:=rfl
theorem atS {o x:Oper}{l:List Oper}{n:Nat}(h:l.toArray[n]? =some o):(x::l).toArray[n+1]? =some o:=by simpa using h
theorem aZ0 {o:Oper}{l:List Oper}:(o::l).toArray[0]? =some o:=rfl
theorem aZ1 {x0 o:Oper}{l:List Oper}:(x0::o::l).toArray[1]? =some o:=rfl
theorem aZ2 {x0 x1 o:Oper}{l:List Oper}:(x0::x1::o::l).toArray[2]? =some o:=rfl
theorem aZ3 {x0 x1 x2 o:Oper}{l:List Oper}:(x0::x1::x2::o::l).toArray[3]? =some o:=rfl
theorem aZ4 {x0 x1 x2 x3 o:Oper}{l:List Oper}:(x0::x1::x2::x3::o::l).toArray[4]? =some o:=rfl
theorem aZ5 {x0 x1 x2 x3 x4 o:Oper}{l:List Oper}:(x0::x1::x2::x3::x4::o::l).toArray[5]? =some o:=rfl
theorem aZ6 {x0 x1 x2 x3 x4 x5 o:Oper}{l:List Oper}:(x0::x1::x2::x3::x4::x5::o::l).toArray[6]? =some o:=rfl
theorem aZ7 {x0 x1 x2 x3 x4 x5 x6 o:Oper}{l:List Oper}:(x0::x1::x2::x3::x4::x5::x6::o::l).toArray[7]? =some o:=rfl
theorem aZ8 {x0 x1 x2 x3 x4 x5 x6 x7 o:Oper}{l:List Oper}:(x0::x1::x2::x3::x4::x5::x6::x7::o::l).toArray[8]? =some o:=rfl
theorem aZ9 {x0 x1 x2 x3 x4 x5 x6 x7 x8 o:Oper}{l:List Oper}:(x0::x1::x2::x3::x4::x5::x6::x7::x8::o::l).toArray[9]? =some o:=rfl
theorem aZ10 {x0 x1 x2 x3 x4 x5 x6 x7 x8 x9 o:Oper}{l:List Oper}:(x0::x1::x2::x3::x4::x5::x6::x7::x8::x9::o::l).toArray[10]? =some o:=rfl
theorem aZ11 {x0 x1 x2 x3 x4 x5 x6 x7 x8 x9 x10 o:Oper}{l:List Oper}:(x0::x1::x2::x3::x4::x5::x6::x7::x8::x9::x10::o::l).toArray[11]? =some o:=rfl
theorem aZ12 {x0 x1 x2 x3 x4 x5 x6 x7 x8 x9 x10 x11 o:Oper}{l:List Oper}:(x0::x1::x2::x3::x4::x5::x6::x7::x8::x9::x10::x11::o::l).toArray[12]? =some o:=rfl
theorem aZ13 {x0 x1 x2 x3 x4 x5 x6 x7 x8 x9 x10 x11 x12 o:Oper}{l:List Oper}:(x0::x1::x2::x3::x4::x5::x6::x7::x8::x9::x10::x11::x12::o::l).toArray[13]? =some o:=rfl
theorem aZ14 {x0 x1 x2 x3 x4 x5 x6 x7 x8 x9 x10 x11 x12 x13 o:Oper}{l:List Oper}:(x0::x1::x2::x3::x4::x5::x6::x7::x8::x9::x10::x11::x12::x13::o::l).toArray[14]? =some o:=rfl
theorem aZ15 {x0 x1 x2 x3 x4 x5 x6 x7 x8 x9 x10 x11 x12 x13 x14 o:Oper}{l:List Oper}:(x0::x1::x2::x3::x4::x5::x6::x7::x8::x9::x10::x11::x12::x13::x14::o::l).toArray[15]? =some o:=rfl
theorem aZ16 {x0 x1 x2 x3 x4 x5 x6 x7 x8 x9 x10 x11 x12 x13 x14 x15 o:Oper}{l:List Oper}:(x0::x1::x2::x3::x4::x5::x6::x7::x8::x9::x10::x11::x12::x13::x14::x15::o::l).toArray[16]? =some o:=rfl
theorem aZ17 {x0 x1 x2 x3 x4 x5 x6 x7 x8 x9 x10 x11 x12 x13 x14 x15 x16 o:Oper}{l:List Oper}:(x0::x1::x2::x3::x4::x5::x6::x7::x8::x9::x10::x11::x12::x13::x14::x15::x16::o::l).toArray[17]? =some o:=rfl
theorem aZ18 {x0 x1 x2 x3 x4 x5 x6 x7 x8 x9 x10 x11 x12 x13 x14 x15 x16 x17 o:Oper}{l:List Oper}:(x0::x1::x2::x3::x4::x5::x6::x7::x8::x9::x10::x11::x12::x13::x14::x15::x16::x17::o::l).toArray[18]? =some o:=rfl
theorem aZ19 {x0 x1 x2 x3 x4 x5 x6 x7 x8 x9 x10 x11 x12 x13 x14 x15 x16 x17 x18 o:Oper}{l:List Oper}:(x0::x1::x2::x3::x4::x5::x6::x7::x8::x9::x10::x11::x12::x13::x14::x15::x16::x17::x18::o::l).toArray[19]? =some o:=rfl
theorem aZ20 {x0 x1 x2 x3 x4 x5 x6 x7 x8 x9 x10 x11 x12 x13 x14 x15 x16 x17 x18 x19 o:Oper}{l:List Oper}:(x0::x1::x2::x3::x4::x5::x6::x7::x8::x9::x10::x11::x12::x13::x14::x15::x16::x17::x18::x19::o::l).toArray[20]? =some o:=rfl
theorem aZ21 {x0 x1 x2 x3 x4 x5 x6 x7 x8 x9 x10 x11 x12 x13 x14 x15 x16 x17 x18 x19 x20 o:Oper}{l:List Oper}:(x0::x1::x2::x3::x4::x5::x6::x7::x8::x9::x10::x11::x12::x13::x14::x15::x16::x17::x18::x19::x20::o::l).toArray[21]? =some o:=rfl
theorem aZ22 {x0 x1 x2 x3 x4 x5 x6 x7 x8 x9 x10 x11 x12 x13 x14 x15 x16 x17 x18 x19 x20 x21 o:Oper}{l:List Oper}:(x0::x1::x2::x3::x4::x5::x6::x7::x8::x9::x10::x11::x12::x13::x14::x15::x16::x17::x18::x19::x20::x21::o::l).toArray[22]? =some o:=rfl
theorem aZ23 {x0 x1 x2 x3 x4 x5 x6 x7 x8 x9 x10 x11 x12 x13 x14 x15 x16 x17 x18 x19 x20 x21 x22 o:Oper}{l:List Oper}:(x0::x1::x2::x3::x4::x5::x6::x7::x8::x9::x10::x11::x12::x13::x14::x15::x16::x17::x18::x19::x20::x21::x22::o::l).toArray[23]? =some o:=rfl
theorem aZ24 {x0 x1 x2 x3 x4 x5 x6 x7 x8 x9 x10 x11 x12 x13 x14 x15 x16 x17 x18 x19 x20 x21 x22 x23 o:Oper}{l:List Oper}:(x0::x1::x2::x3::x4::x5::x6::x7::x8::x9::x10::x11::x12::x13::x14::x15::x16::x17::x18::x19::x20::x21::x22::x23::o::l).toArray[24]? =some o:=rfl
theorem aZ25 {x0 x1 x2 x3 x4 x5 x6 x7 x8 x9 x10 x11 x12 x13 x14 x15 x16 x17 x18 x19 x20 x21 x22 x23 x24 o:Oper}{l:List Oper}:(x0::x1::x2::x3::x4::x5::x6::x7::x8::x9::x10::x11::x12::x13::x14::x15::x16::x17::x18::x19::x20::x21::x22::x23::x24::o::l).toArray[25]? =some o:=rfl
theorem aZ26 {x0 x1 x2 x3 x4 x5 x6 x7 x8 x9 x10 x11 x12 x13 x14 x15 x16 x17 x18 x19 x20 x21 x22 x23 x24 x25 o:Oper}{l:List Oper}:(x0::x1::x2::x3::x4::x5::x6::x7::x8::x9::x10::x11::x12::x13::x14::x15::x16::x17::x18::x19::x20::x21::x22::x23::x24::x25::o::l).toArray[26]? =some o:=rfl
theorem aZ27 {x0 x1 x2 x3 x4 x5 x6 x7 x8 x9 x10 x11 x12 x13 x14 x15 x16 x17 x18 x19 x20 x21 x22 x23 x24 x25 x26 o:Oper}{l:List Oper}:(x0::x1::x2::x3::x4::x5::x6::x7::x8::x9::x10::x11::x12::x13::x14::x15::x16::x17::x18::x19::x20::x21::x22::x23::x24::x25::x26::o::l).toArray[27]? =some o:=rfl
theorem aZ29 {x0 x1 x2 x3 x4 x5 x6 x7 x8 x9 x10 x11 x12 x13 x14 x15 x16 x17 x18 x19 x20 x21 x22 x23 x24 x25 x26 x27 x28 o:Oper}{l:List Oper}:(x0::x1::x2::x3::x4::x5::x6::x7::x8::x9::x10::x11::x12::x13::x14::x15::x16::x17::x18::x19::x20::x21::x22::x23::x24::x25::x26::x27::x28::o::l).toArray[29]? =some o:=rfl
theorem anyL_take {i:Nat}{o:Oper}{v:Value}{n:Nat}{listed:Array Bool}{a:Act}{w:World}(hi:ops[i]? =some o)(hw:waits md ops L i=true)
  (hs:Region.noSelect ops=true) (hf:Region.free md ops listed i=true) (hr:(Region.ready md ops listed).contains i=true)
  (hQ:∀ c a w,Q (.panic c) (a.put o.dst v) w→Q (.panic c) a w) (hg:o.guard=none) (hy:∀ w,S w→(execOp a.eval o).run P w= .ok (.value v) w) (hS:S w)
  (h:AnyL P md ops Q S L n (listed.setIfInBounds i true) (a.put o.dst v) w):AnyL P md ops Q S L (n+1) listed a w:=
 AnyL.first hi hw (Region.noSelect_spec hs) hQ n listed a w (Region.free_spec hi hf) (by simpa using hr) (.inl ⟨by simp[Region.wanted,hg],hy⟩) hS h
theorem jjab {i:Nat}{o:Oper}{n:Nat}{listed:Array Bool}{a:Act}{w:World}(hi:ops[i]? =some o)
  (h:∀ K:Act→World→Prop,(∀ b x,(i=L∨S x)→AnyL P md ops Q S L n (listed.setIfInBounds i true) b x→K b x)→Oper.wp P o a w K Q) (hr:Region.ready md ops listed=[i]:=by kernel_rfl) (hg:o.guard=none:=by rfl):AnyL P md ops Q S L (n+1) listed a w:=by
 refine⟨fun h0=>absurd (hr▸h0) (by simp),?_⟩
 rw[hr];intro j hj;obtain rfl:j=i:=by simpa using hj
 refine wpOp_step hi (fun K hK=>?_)
 have hw:Region.wanted o (yielded ops a.tmps)=true:=by simp[Region.wanted,hg]
 rw[if_pos hw];exact h K (fun b x h1 h2=>hK b x ⟨h1,h2⟩)
theorem anyL_takeG {i:Nat}{o:Oper}{v:Value}{n:Nat}{listed:Array Bool}{a:Act}{w:World}(hi:ops[i]? =some o)(hw:waits md ops L i=true)
  (hs:Region.noSelect ops=true) (hf:Region.free md ops listed i=true) (hr:(Region.ready md ops listed).contains i=true)
  (hQ:∀ c a w,Q (.panic c) (a.put o.dst v) w→Q (.panic c) a w) (hg:Region.wanted o (yielded ops a.tmps)=true) (hy:∀ w,S w→(execOp a.eval o).run P w= .ok (.value v) w) (hS:S w)
  (h:AnyL P md ops Q S L n (listed.setIfInBounds i true) (a.put o.dst v) w):AnyL P md ops Q S L (n+1) listed a w:=
 AnyL.first hi hw (Region.noSelect_spec hs) hQ n listed a w (Region.free_spec hi hf) (by simpa using hr) (.inl ⟨hg,hy⟩) hS h
theorem jjb5 {i:Nat}{o:Oper}{n:Nat}{listed:Array Bool}{a:Act}{w:World}(hi:ops[i]? =some o)(hw:waits md ops L i=true)
  (hs:Region.noSelect ops=true) (hf:Region.free md ops listed i=true) (hr:(Region.ready md ops listed).contains i=true)
  (hQ:∀ c a w,Q (.panic c) (a.put o.dst undef) w→Q (.panic c) a w) (hg:Region.wanted o (yielded ops a.tmps)=false) (hS:S w)
  (h:AnyL P md ops Q S L n (listed.setIfInBounds i true) (a.put o.dst undef) w):AnyL P md ops Q S L (n+1) listed a w:=
 AnyL.first hi hw (Region.noSelect_spec hs) hQ n listed a w (Region.free_spec hi hf) (by simpa using hr) (.inr ⟨hg,rfl⟩) hS h
theorem jjdt {i:Nat}{o:Oper}{n:Nat}{listed:Array Bool}{a:Act}{w:World}(hi:ops[i]? =some o)(hr:Region.ready md ops listed=[i])(hg:Region.wanted o (yielded ops a.tmps)=true)
  (h:∀ K:Act→World→Prop,(∀ b x,(i=L∨S x)→AnyL P md ops Q S L n (listed.setIfInBounds i true) b x→K b x)→Oper.wp P o a w K Q):AnyL P md ops Q S L (n+1) listed a w:=by
 refine⟨fun h0=>absurd (hr▸h0) (by simp),?_⟩
 rw[hr];intro j hj;obtain rfl:j=i:=by simpa using hj
 refine wpOp_step hi (fun K hK=>?_)
 rw[if_pos hg];exact h K (fun b x h1 h2=>hK b x ⟨h1,h2⟩)
def tkB (md:Region.Mode)(ops:Array Oper)(L:Nat)(listed:Array Bool)(i:Nat):Bool:=waits md ops L i&&(Region.noSelect ops&&(Region.free md ops listed i&&(Region.ready md ops listed).contains i))
theorem jjc4 {listed:Array Bool}{i:Nat}(h:tkB md ops L listed i=true):waits md ops L i=true∧Region.noSelect ops=true∧Region.free md ops listed i=true∧(Region.ready md ops listed).contains i=true:=by
 unfold tkB at h;rw[Bool.and_eq_true,Bool.and_eq_true,Bool.and_eq_true]at h;exact h
theorem jjaa {i:Nat}{o:Oper}{v:Value}{n:Nat}{listed:Array Bool}{a:Act}{w:World}(hi:ops[i]? =some o)(hy:∀ w,S w→(execOp a.eval o).run P w= .ok (.value v) w)(hS:S w)
  (h:AnyL P md ops Q S L n (listed.setIfInBounds i true) (a.put o.dst v) w) (hb:tkB md ops L listed i=true:=by kernel_rfl) (hg:o.guard=none:=by rfl) (hQ:∀ c a w,Q (.panic c) (a.put o.dst v) w→Q (.panic c) a w:=by exact fun _ _ _ h=>h):AnyL P md ops Q S L (n+1) listed a w:=
 anyL_take hi (jjc4 hb).1 (jjc4 hb).2.1 (jjc4 hb).2.2.1 (jjc4 hb).2.2.2 hQ hg hy hS h
theorem anyL_tg {i:Nat}{o:Oper}{v:Value}{n:Nat}{listed:Array Bool}{a:Act}{w:World}(hi:ops[i]? =some o)(hy:∀ w,S w→(execOp a.eval o).run P w= .ok (.value v) w)(hS:S w)
  (h:AnyL P md ops Q S L n (listed.setIfInBounds i true) (a.put o.dst v) w) (hb:tkB md ops L listed i=true:=by kernel_rfl) (hg:Region.wanted o (yielded ops a.tmps)=true:=by rfl) (hQ:∀ c a w,Q (.panic c) (a.put o.dst v) w→Q (.panic c) a w:=by exact fun _ _ _ h=>h):AnyL P md ops Q S L (n+1) listed a w:=
 anyL_takeG hi (jjc4 hb).1 (jjc4 hb).2.1 (jjc4 hb).2.2.1 (jjc4 hb).2.2.2 hQ hg hy hS h
theorem jjad {n:Nat}{listed:Array Bool}{a:Act}{w:World}(hr:Region.ready md ops listed=[])(h:Q .normal a w):AnyL P md ops Q S L n listed a w:=by
 cases n with
 | zero=>exact ⟨hr,h⟩
 | succ n=>exact ⟨fun _=>h,by rw[hr];simp⟩
theorem jjaw {o:Oper}{a:Act}{w w':World}{K:Act→World→Prop}{v1 v2 v3:Value}(x y:Operand)(t:TypeId)(ho:o.op= .call {callee:= .builtin .append,args:=#[x,y],argTypes:=#[t,t]})(hx:a.eval x=v1)(hy:a.eval y=v2)
  (hr:(Builtin.append_ #[t,t] o.type #[v1,v2]).run P w= .ok v3 w') (h:K (a.put o.dst v3) w'):o.wp P a w K Q:=by
 unfold Oper.wp execOp;simp only[ho,resolve,invoke,builtin,Sem.run_bind,Sem.run_pure,Result.andThen_ok,List.map_toArray,List.map_cons,List.map_nil,hx,hy,hr];exact h
theorem jjaf (S:World→Prop)(L:Nat){id:Nat}{a:Act}{w:World}(hm:P.follows .mixedOrders=true)(h:AnyL P .any ops (NoPanic Q) S L ops.size (Array.replicate ops.size false) a w.drew):(Code.region id ops true).wp P Q a w:=
 wp_region_noPanic (wp_region_any hm (AnyL.any _ _ _ _ h))
end
open ChangeAt ChangeShapes RowKit WideShapes
def Blk (w:World)(b:Nat)(cs:Array Value)(t:TypeId):Prop:=w.heap[b]? =some (.cells cs t (0,0))
theorem Blk.lt {w:World}{b:Nat}{cs:Array Value}{t:TypeId}(h:Blk w b cs t):b<w.heap.size:=lt_of_block h
theorem Blk.cell {w:World}{b:Nat}{cs:Array Value}{t:TypeId}(h:Blk w b cs t)(i:Nat){v:Value}(hv:cs[i]? =some v):w.cell? ⟨b,i,none⟩=some v:=by
 unfold Blk at h;simp[World.cell?,h,hv]
theorem Blk.fz {w:World}{b:Nat}{cs:Array Value}{t:TypeId}(h:Blk w b cs t)(i:Nat):w.frozen? ⟨b,i,none⟩=false:=by
 unfold Blk at h;simp[World.frozen?,h]
theorem Blk.set {w:World}{b:Nat}{cs:Array Value}{t:TypeId}(h:Blk w b cs t)(i:Nat)(v:Value):Blk (w.setCell ⟨b,i,none⟩ v) b (cs.setIfInBounds i v) t:=by
 unfold Blk at h ⊢;show(w.heap.modify b _)[b]? =_;rw[Array.getElem?_modify,if_pos rfl,h];rfl
theorem Blk.keep {w w':World}{b:Nat}{cs:Array Value}{t:TypeId}(h:Blk w b cs t)(e:w'.heap[b]? =w.heap[b]?):Blk w' b cs t:=e.trans h
theorem Blk.setO {w:World}{b:Nat}{cs:Array Value}{t:TypeId}(h:Blk w b cs t)(a:Addr)(v:Value)(hn:b≠a.block):Blk (w.setCell a v) b cs t:=h.keep (Below.heap_setCell w a v b hn)
theorem Blk.alloc {w:World}{b:Nat}{cs:Array Value}{t:TypeId}(h:Blk w b cs t)(o:Obj):Blk (w.alloc o) b cs t:=h.keep (Below.heap_alloc w o b h.lt)
theorem Blk.drew {w:World}{b:Nat}{cs:Array Value}{t:TypeId}(h:Blk w b cs t):Blk w.drew b cs t:=h
theorem Blk.drewN {w:World}{b:Nat}{cs:Array Value}{t:TypeId}(h:Blk w b cs t)(n:Nat):Blk (w.drewN n) b cs t:=h
theorem Blk.below {w w':World}{b B:Nat}{cs:Array Value}{t:TypeId}(h:Blk w b cs t)(hb:Below B w w')(hB:b<B):Blk w' b cs t:=h.keep (hb.block b hB)
theorem Blk.grown {w w':World}{b:Nat}{cs:Array Value}{t:TypeId}{row:Option Nat}(h:Blk w b cs t)(hg:w.grownBy w' row)(hne:some b≠row):Blk w' b cs t:=h.keep (hg.block b h.lt hne)
theorem Blk.made (w:World)(cs:Array Value)(t:TypeId):Blk (w.alloc (.cells cs t)) w.heap.size cs t:=by
 show(w.heap.push _)[w.heap.size]? =_;simp
theorem boxed {w w1:World}{cs:Array Value}{t:TypeId}{n:Nat}(hb:Below n (w.alloc (.cells cs t)) w1)(hn:n=w.heap.size+1):w.heap.size+1≤w1.heap.size∧Blk w1 w.heap.size cs t∧Below w.heap.size w w1:=by
 subst hn;have h:=hb.size;simp only[World.size_alloc]at h;exact⟨h,(Blk.made w cs t).below hb (by omega),((Below.refl _ _).alloc (Nat.le_refl _) _).trans (hb.mono (by omega))⟩
theorem jjes {P:Program}{t k e:TypeId}(ht:P.underlying t=some (.map k e))(n:Int)(w:World):(Instr.makeMap t (some (.int .i64 n))).run P w= .ok (.map (some w.heap.size)) (w.alloc (.map #[] 0)):=by
 simp[Instr.makeMap,run_underlying ht,asInt,asIntOf]
theorem map_ne_blk {w:World}{b m:Nat}{cs:Array Value}{t:TypeId}(h:Blk w b cs t){H:Type}{P:Program}{k:TypeId}{R:Value→Option (DataW H × List MemPlace)}{n:Nat}{D:DataW H}(hm:w.ownsMap P k R m n D):b≠m:=by
 intro e;subst e;obtain⟨es,clock,hb,_⟩:=hm
 unfold Blk at h;rw[hb]at h;cases h
open Pl
def OwnSts (w:World)(base:Nat)(v:Value)(l:List St):Prop:=
 ∃ vs:List (Int × Value),w.ownsRow base 45 2 v vs.length (vs.flatMap encS)∧vs.length=l.length∧∀ j,j<l.length→(el vs j).1=(el l j).1∧w.ownsRow base 56 4 (el vs j).2 (el l j).2.length ((el l j).2.flatMap encA)
theorem OwnSts.nil (w:World)(base:Nat):OwnSts w base (.slice none 0 0) []:=⟨[],World.ownsRow_nil _ _ _ _,rfl,by simp⟩
theorem OwnSts.sts {w:World}{base:Nat}{v:Value}{l:List St}(h:OwnSts w base v l):Sts w v l:=by
 obtain⟨vs,h1,h2,h3⟩:=h
 exact⟨vs,Row.ofOwn jja9 h1 rfl,h2,fun j hj=>⟨(h3 j hj).1,Row.ofOwn jjah (h3 j hj).2 rfl⟩⟩
theorem OwnSts.kept {w w':World}{base:Nat}{v:Value}{l:List St}(h:OwnSts w base v l)(hg:w.grownBy w' none):OwnSts w' base v l:=by
 obtain⟨vs,h1,h2,h3⟩:=h
 refine⟨vs,h1.kept hg ?_,h2,fun j hj=>⟨(h3 j hj).1,(h3 j hj).2.kept hg ?_⟩⟩
 ·rcases v.ownBlock with _ | _<;>simp
 ·rcases (el vs j).2.ownBlock with _ | _<;>simp
theorem OwnSts.setCell {w:World}{base:Nat}{v:Value}{l:List St}(h:OwnSts w base v l){a:Addr}(ha:a.block<base)(u:Value):OwnSts (w.setCell a u) base v l:=by
 obtain⟨vs,h1,h2,h3⟩:=h
 exact⟨vs,ownsRow_setCell_below h1 ha u,h2,fun j hj=>⟨(h3 j hj).1,ownsRow_setCell_below (h3 j hj).2 ha u⟩⟩
theorem jjbx {w:World}{base:Nat}{e:TypeId}{s:Nat}{v:Value}{n:Nat}{xs:List Value}(h:w.ownsRow base e s v n xs):∃ a c,v= .slice a n c:=by
 rcases h.2 with⟨hv,rfl⟩ | ⟨g,cap,cur,hv,_⟩
 ·exact ⟨_,_,hv⟩
 ·exact ⟨_,_,hv⟩
theorem below_new {w w':World}{base:Nat}(hs:base≤w.heap.size)(hg:w.grownBy w' none):Below base w w':=(Below.refl _ _).grown hg hs (by simp)
theorem own_zero {w:World}{base:Nat}{e:TypeId}{s:Nat}{v:Value}{n:Nat}{xs:List Value}(h:w.ownsRow base e s v (0+n) ([]++xs)):w.ownsRow base e s v n xs:=by simpa using h
theorem own_one {w:World}{base:Nat}{e:TypeId}{s:Nat}{v:Value}{n:Nat}{xs:List Value}(h:w.ownsRow base e s v n xs):v.oneCell'=true:=by
 rcases h.2 with⟨hv,_⟩ | ⟨g,cap,cur,hv,_⟩<;>rw [hv]<;>rfl
theorem jjey {W w1:World}(s:St)(l:List St)(va vo:Value)(base:Nat)
  (hW:W.heap=w1.heap.push (.cells #[.int .i64 s.1,va] 45)) (hos:W.os=w1.os) (htp:W.tape=w1.tape) (hou:W.output=w1.output)
  (hown:OwnSts w1 base vo l) (hva:w1.ownsRow base 56 4 va s.2.length (s.2.flatMap encA)) (hl:(l.length+1)*32≤140737488355328) (hbase:base≤w1.heap.size):
  ∃ v3 w3,(Builtin.append_ #[22,22] 22 #[vo,.slice (some ⟨w1.heap.size,0,none⟩) 1 1]).run Tryz.prog W= .ok v3 w3∧OwnSts w3 base v3 (l++[s])∧Below base w1 w3:=by
 obtain⟨i1,hi1,hy0,hy1,hy2⟩:=info_parts infoState
 obtain⟨vs,q1,q2,q3⟩:=hown
 have e1:∀ k,k<w1.heap.size→W.heap[k]? =w1.heap[k]?:=fun k hk=>by rw[hW,Array.getElem?_push_lt hk,Array.getElem?_eq_getElem hk]
 have e0:W.heap[w1.heap.size]? =some (.cells #[.int .i64 s.1,va] 45 (0,0)):=by rw[hW];simp
 have es:W.heap.size=w1.heap.size+1:=by rw[hW];simp
 have hg:w1.grownBy W none:=⟨hos,htp,hou,by omega,fun k hk _=>e1 k hk⟩
 have kn:∀ v:Value,v.ownBlock=none∨v.ownBlock≠none:=fun v=>by rcases v.ownBlock with _ | _<;>simp
 have hvo:=q1.kept hg (kn _);obtain⟨v3,w3,hr,h1,h2,_⟩:=run_append_own (P:=Tryz.prog) W base 22 22 45 i1 _ 2 32 Tryz.underlying22 hi1 hy0 hy1 hy2 rfl (by omega) vo vs.length (vs.flatMap encS) hvo ⟨w1.heap.size,0,none⟩ 1 1 [.int .i64 s.1,va] rfl (World.news_of_block (cs:=#[.int .i64 s.1,va]) e0) (by
  intro u hu
  simp at hu
  rcases hu with rfl | rfl
  ·rfl
  ·exact own_one hva) (by rw[q2];unfold maxLen;omega) (by rw[q2];exact hl) (by omega)
 refine⟨v3,w3,hr,⟨vs++[(s.1,va)],by simpa [encS] using h1,by simp[q2],?_⟩,?_⟩
 ·intro j hj
  have hj':j<l.length∨j=l.length:=by simp at hj;omega
  rcases hj' with hj' | rfl
  ·rw [jjbc (by omega),jjbc hj']
   have:=(q3 j hj').2.kept hg (kn _);exact⟨(q3 j hj').1,this.kept h2 (jjcm this hvo (by decide))⟩
  ·rw [jjbu,← q2,jjbu]
   have:=hva.kept hg (kn _);exact⟨rfl,this.kept h2 (jjcm this hvo (by decide))⟩
 ·exact ((Below.refl _ _).grown hg hbase (by simp)).grown h2 (by omega) (jjcv hvo)
end Wt
namespace Pl
def aheadB (a b:Ar):Bool:=if a.1=b.1 then(if a.2.1=b.2.1 then(if a.2.2.2=b.2.2.2 then decide (a.2.2.1<b.2.2.1) else decide (a.2.2.2<b.2.2.2)) else decide (a.2.1<b.2.1)) else decide (a.1<b.1)
theorem jjdc {a b:Ar}:aheadB a b=true↔(a.1<b.1∨a.1=b.1∧(a.2.1<b.2.1∨a.2.1=b.2.1∧(a.2.2.2<b.2.2.2∨a.2.2.2=b.2.2.2∧a.2.2.1<b.2.2.1))):=by
 unfold aheadB;repeat' split
 all_goals (simp only[decide_eq_true_eq];omega)
theorem jja3 {a b:Ar}:aheadB a b=false↔¬ (a.1<b.1∨a.1=b.1∧(a.2.1<b.2.1∨a.2.1=b.2.1∧(a.2.2.2<b.2.2.2∨a.2.2.2=b.2.2.2∧a.2.2.1<b.2.2.1))):=by
 rw[← jjdc];simp
theorem jjcw {a b c:Ar}(h1:aheadB b a=false)(h2:aheadB c b=false):aheadB c a=false:=by
 rw[jja3]at *;omega
def cmpI (a b:Int):Int:=if a<b then -1 else if b<a then 1 else 0
def orI (c0 c1 c2 c3:Int):Int:=if c0=0 then(if c1=0 then(if c2=0 then c3 else c2) else c1) else c0
theorem orI_neg (a b:Ar):decide (orI (cmpI a.1 b.1) (cmpI a.2.1 b.2.1) (cmpI a.2.2.2 b.2.2.2) (cmpI a.2.2.1 b.2.2.1)<0)=aheadB a b:=by
 rw[Bool.eq_iff_iff,jjdc,decide_eq_true_eq];unfold orI cmpI;repeat' split
 all_goals omega
def sortB (l:List Ar):Bool:=(List.range (l.length-1)).all fun i=> !aheadB (el l (i+1)) (el l i)
theorem sortB_iff {l:List Ar}:sortB l=true↔∀ i,i+1<l.length→aheadB (el l (i+1)) (el l i)=false:=by
 simp only[sortB,List.all_eq_true,List.mem_range,Bool.not_eq_true'];exact⟨fun h i hi=>h i (by omega),fun h i hi=>h i (by omega)⟩
def pairB (a b:Ar):Bool:=decide (a.1=b.1)&&decide (a.2.1=b.2.1)
def onceB (l:List Ar):Bool:=(List.range l.length).all fun k=>(List.range k).all fun j=> !pairB (el l k) (el l j)
theorem onceB_iff {l:List Ar}:onceB l=true↔∀ k,k<l.length→∀ j,j<k→pairB (el l k) (el l j)=false:=by
 simp only[onceB,List.all_eq_true,List.mem_range,Bool.not_eq_true']
theorem pairB_iff {a b:Ar}:pairB a b=true↔a.1=b.1∧a.2.1=b.2.1:=by simp[pairB]
theorem jjdu {k:IntKind}{a b:Int}(h:a=b):Ending.returned (.int k a)= .returned (.int k b):=by rw[h]
def pkR (n many:Int):Int:=(if n<0 then -(n+1) else n) % many
theorem jjc0 (n many:Int)(h:0<many):0≤pkR n many∧pkR n many<many:=by
 unfold pkR;exact⟨Int.emod_nonneg _ (by omega),Int.emod_lt_of_pos _ h⟩
def arM (n:Nat)(full:Bool)(e:Ar):Ar:=
 (if(full&&decide (pkR e.1 3=0)&&decide (pkR e.2.1 3=0))=true then 1 else pkR e.1 3,pkR e.2.1 3,pkR e.2.2.1 10,pkR e.2.2.2 n)
def stM (n:Nat)(full:Bool)(x:Int × Bool × List Ar):St:=(if x.2.1=true then pkR x.1 10 else 1000000001,(x.2.2.take 4).map (arM n full))
def sizeM (r:Int × List (Int × Bool × List Ar))(states:Nat):Nat:=min (max r.2.length 1) states
def statesM (r:Int × List (Int × Bool × List Ar))(n:Nat)(full:Bool):List St:=(List.range n).map fun q=>if r.2.length≤q then(0,[]) else stM n full (el r.2 q)
def madeM (r:Int × List (Int × Bool × List Ar))(states:Nat)(full:Bool):Mc:=(pkR r.1 (sizeM r states),statesM r (sizeM r states) full)
theorem jjcj (r:Int × List (Int × Bool × List Ar))(n:Nat)(full:Bool):(statesM r n full).length=n:=by simp[statesM]
theorem arM_right {n:Nat}(hn:0<n)(full:Bool)(e:Ar):arcB n (arM n full e)=true:=by
 have h1:=jjc0 e.1 3 (by omega);have h2:=jjc0 e.2.1 3 (by omega);have h3:=jjc0 e.2.2.1 10 (by omega);have h4:=jjc0 e.2.2.2 n (by omega);simp only[arcB,arM,inB,Bool.and_eq_true,decide_eq_true_eq];refine⟨⟨⟨?_,by omega⟩,by omega⟩,by omega⟩
 split<;>omega
theorem stM_right {n:Nat}(hn:0<n)(full:Bool)(x:Int × Bool × List Ar):stB n (stM n full x)=true:=by
 have h1:=jjc0 x.1 10 (by omega);unfold stB stM;simp only[Bool.and_eq_true,List.all_eq_true,List.mem_map];refine⟨?_,?_⟩
 ·split
  ·simp only[finB,inB,Bool.or_eq_true,Bool.and_eq_true,decide_eq_true_eq];omega
  ·rfl
 ·rintro a ⟨e,_,rfl⟩
  exact arM_right hn full e
theorem stM_few (n:Nat)(full:Bool)(x:Int × Bool × List Ar):(stM n full x).2.length≤4:=by simp[stM];omega
theorem madeM_right (r:Int × List (Int × Bool × List Ar))(states:Nat)(hs:0<states)(hs8:states≤8)(full:Bool):faultM (madeM r states full)=0:=by
 have hn:0<sizeM r states:=by unfold sizeM;omega
 have hn8:sizeM r states≤8:=by unfold sizeM;omega
 unfold madeM;generalize sizeM r states=n at *;have hl:=jjcj r n full;have hz:=jjc0 r.1 n (by omega);have hk:∀ s ∈ statesM r n full,stB n s=true∧s.2.length≤4:=fun s hs=>by
  unfold statesM at hs;simp only[List.mem_map]at hs;obtain⟨q,_,rfl⟩:=hs
  split
  ·exact ⟨by simp[stB,finB,inB],by simp⟩
  ·exact ⟨stM_right hn full _,stM_few n full _⟩
 have ha:arcN (statesM r n full)≤(statesM r n full).length*4:=arcN_le (fun j hj=>(hk _ (jjac hj)).2);refine jjb4 ?_ ?_
 ·simp only[sizeB,Bool.and_eq_true,decide_eq_true_eq]
  rw[hl]at ha ⊢;omega
 ·simp only[rangeB,inB,Bool.and_eq_true,decide_eq_true_eq,List.all_eq_true]
  rw[hl];exact⟨by omega,fun s hs=>(hk s hs).1⟩
end Pl
namespace Wt
open ChangeShapes WideShapes ChangeAt RowKit Pl
theorem jja6 (n many:Int)(w:World)(hn:(Lit.int .i64 n).wf=true)(hm:0<many)(hm2:many≤9223372036854775807)(r:Int)(hr:pkR n many=r):
  Calls Tryz.prog 31 #[.int .i64 n,.int .i64 many] w fun e w'=>e= .returned (.int .i64 r)∧w=w':=by
 subst hr;obtain⟨b1,b2⟩:=bounds_i64 hn
 clear hn;by_cases h:n<0
 ·have HP:Hid (pkR n many=(-(n+1)) % many):=by show _=_;simp[pkR,h]
  go_enter Tryz.func31,Tryz.ntmps31;go_wp2;go_ret;exact⟨jja8 (by rw[HP.out,← Int.neg_tmod,Int.tmod_eq_emod_of_nonneg (by omega)]),rfl⟩
 ·have HP:Hid (pkR n many=n % many):=by show _=_;simp[pkR,h]
  go_enter Tryz.func31,Tryz.ntmps31;go_wp2;go_ret;exact⟨jja8 (by rw[HP.out]),rfl⟩
section
variable {P:Program} {ops:Array Oper} {Q:Exit→Act→World→Prop} {md:Region.Mode} {S:World→Prop} {L:Nat}
theorem jjbp {rs:List Nat}{n:Nat}{listed:Array Bool}{a:Act}{w:World}(hr:Region.ready md ops listed=rs)(hne:rs≠[])
  (h:∀ i ∈ rs,∃ o,ops[i]? =some o∧o.guard=none∧∀ K:Act→World→Prop,(∀ b x,(i=L∨S x)→AnyL P md ops Q S L n (listed.setIfInBounds i true) b x→K b x)→Oper.wp P o a w K Q):AnyL P md ops Q S L (n+1) listed a w:=by
 refine⟨fun h0=>absurd (hr▸h0) hne,?_⟩
 rw[hr];intro j hj;obtain⟨o,hi,hg,h⟩:=h j hj
 refine wpOp_step hi (fun K hK=>?_)
 have hw:Region.wanted o (yielded ops a.tmps)=true:=by simp[Region.wanted,hg]
 rw[if_pos hw];exact h K (fun b x h1 h2=>hK b x ⟨h1,h2⟩)
end
theorem jjdv {w:World}{base base':Nat}{e:TypeId}{s:Nat}{v:Value}{n:Nat}{xs:List Value}(h:w.ownsRow base e s v n xs)(hb:base'≤base):w.ownsRow base' e s v n xs:=by
 refine⟨h.1,?_⟩
 rcases h.2 with h2 | ⟨g,cap,cur,hv,hg,h3⟩
 ·exact .inl h2
 ·exact .inr ⟨g,cap,cur,hv,Nat.le_trans hb hg,h3⟩
theorem one_arc (w:World)(p:Ar):Row 4 encA (w.alloc (.cells #[.int .i64 p.1,.int .i64 p.2.1,.int .i64 p.2.2.1,.int .i64 p.2.2.2] 56)) (.slice (some ⟨w.heap.size,0,none⟩) 1 1) [p]:=by
 refine .inr ⟨⟨w.heap.size,0,none⟩,1,rfl,fun j hj i u hu=>?_⟩
 have hj0:j=0:=by simp at hj;exact hj
 subst hj0;rw[Addr.add_lit];refine(Blk.made w _ _).cell _ ?_
 rw[Nat.zero_mul,Nat.zero_add,Nat.zero_add];rw[jjbj]at hu;simpa [encA] using hu
theorem own_snoc {w:World}{base:Nat}{v:Value}{n:Nat}{l:List Ar}{p:Ar}(h:w.ownsRow base 56 4 v (n+[p].length) (l.flatMap encA++[p].flatMap encA))(hn:n=l.length):w.ownsRow base 56 4 v (l++[p]).length ((l++[p]).flatMap encA):=by
 subst hn;rw[List.length_append,List.flatMap_append];exact h
theorem snoc_facts {w w':World}{base:Nat}{vo v:Value}{l:List Ar}{p:Ar}{ob:Obj}(ho:w.ownsRow base 56 4 vo l.length (l.flatMap encA))(hs:base≤w.heap.size)(h:w'.ownsRow base 56 4 v (l.length+[p].length) (l.flatMap encA++[p].flatMap encA))(hg:(w.alloc ob).grownBy w' vo.ownBlock):
  Hid (w'.ownsRow base 56 4 v (l++[p]).length ((l++[p]).flatMap encA))∧Hid (Below base w w')∧Hid (base≤w'.heap.size):=by
 have hb:Below base w w':=((Below.refl _ _).alloc hs ob).grown hg (by simp;omega) (jjcv ho);exact⟨own_snoc h rfl,hb,Nat.le_trans hs hb.size⟩
end Go.Proofs.YtppkiejhhmahcaaGreatDoor.Wt
