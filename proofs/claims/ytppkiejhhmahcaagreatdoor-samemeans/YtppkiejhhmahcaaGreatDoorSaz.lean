/- Facts, joined. -/
import Derived.Lib.Builder
import Derived.Lib.AppendStr
import Derived.Lib.UnsafeStr
import Derived.Laws.Externs
import Derived.Shelf.RegionOpenPlain
import Derived.Lib.LaidTab
import Derived.WalkSpells
import Derived.WalkLawsBesides
import Derived.Test.YtppkiejhhmahcaaGreatDoorShelf
import Derived.Test.YtppkiejhhmahcaaGreatDoorSaw
set_option linter.unusedSimpArgs false
set_option linter.unusedVariables false
set_option maxHeartbeats 3200000
set_option maxRecDepth 100000
namespace Go.Proofs.YtppkiejhhmahcaaGreatDoor.Wt
open ChangeShapes WideShapes ChangeAt RowKit Pl
theorem infoBuilder :(Tryz.prog.info? 201).map (·.size)=some 2:=by kernel_rfl
theorem liesBuilderV :liesAt Tryz.prog Tryz.prog.depth 201 (2 / Tryz.prog.cellsOf 201) 0 201 1=true:=by kernel_rfl
theorem infoByte :(Tryz.prog.info? 5).map (fun i=>(i.zero,i.size,i.bytes))=some (some (.int .u8 0),1,1):=by kernel_rfl
theorem chk_used (b:Nat)(w:World)(h0:w.cell? ⟨b,0,none⟩=some (.pointer (some ⟨b,0,none⟩))):
  Calls Tryz.prog 186 #[.pointer (some ⟨b,0,none⟩)] w fun e w'=>e= .returned (.tuple #[])∧w'=w:=by
 obtain⟨j,hj,_⟩:=Option.map_eq_some_iff.1 infoBuilder
 have hne:=Lib.run_neq_ptr_same (P:=Tryz.prog) w ⟨b,0,none⟩ Tryz.underlying198 hj;go_enter Tryz.func186,Tryz.ntmps186;go_wp2;go_end0;exact⟨rfl,rfl⟩
theorem noEscape (a:Addr)(w:World):(callFunc 192 #[.pointer (some a)]).run Tryz.prog w= .ok (.value (.pointer (some a))) w:=by
 rw[run_callFunc_extern Tryz.func192 (by kernel_rfl) (by kernel_rfl) (by kernel_rfl) (e:=Extern.AbiNoEscape.same) (by kernel_rfl)];rfl
theorem chk_fresh (b:Nat)(w:World)(h0:w.cell? ⟨b,0,none⟩=some (.pointer none))(hsh:w.shape? b=some (201,2))(hfz:w.frozen? ⟨b,0,none⟩=false):
  Calls Tryz.prog 186 #[.pointer (some ⟨b,0,none⟩)] w fun e w'=>e= .returned (.tuple #[])∧w'=w.setCell ⟨b,0,none⟩ (.pointer (some ⟨b,0,none⟩)):=by
 obtain⟨j,hj,hjs⟩:=Option.map_eq_some_iff.1 infoBuilder
 have hne:=fun w=>Lib.run_neq_ptr_same (P:=Tryz.prog) w ⟨b,0,none⟩ Tryz.underlying198 hj
 have hto:=Lib.run_to_unsafe (P:=Tryz.prog) w ⟨b,0,none⟩ Tryz.underlying198 Tryz.underlying247 hj (by rw[hjs];decide) hsh (Nat.zero_lt_succ 1);have hfr:=Lib.run_from_unsafe (P:=Tryz.prog) w ⟨b,0,none⟩ Tryz.underlying247 Tryz.underlying198 hj hsh liesBuilderV;have hes:=noEscape ⟨b,0,none⟩ w;go_enter Tryz.func186,Tryz.ntmps186;go_wp2;go_end0;exact⟨rfl,rfl⟩
def Oth (w w':World):Prop:=∀ (k:Nat) (cs:Array Value) (T:TypeId) (fr:Nat × Nat),w.heap[k]? =some (.cells cs T fr)→T≠201→T≠5→w'.heap[k]? =some (.cells cs T fr)
theorem Oth.refl (w:World):Oth w w:=fun _ _ _ _ h _ _=>h
theorem Oth.trans {w w' w2:World}(h:Oth w w')(h2:Oth w' w2):Oth w w2:=fun k cs T fr e a b=>h2 k cs T fr (h k cs T fr e a b) a b
theorem Oth.of {w w':World}(h:Below w.heap.size w w'):Oth w w':=fun k cs T fr e _ _=>(h.block k (lt_of_block e)).trans e
theorem Oth.set {w:World}{b o:Nat}{v:Value}{cs:Array Value}(hb:w.heap[b]? =some (.cells cs 201 (0,0))):Oth w (w.setCell ⟨b,o,none⟩ v):=fun k ds T fr e a _=>by
 by_cases hk:k=b
 ·subst hk
  rw[hb]at e;simp only[Option.some.injEq,Obj.cells.injEq]at e;exact absurd e.2.1.symm a
 ·rw [Below.heap_setCell _ _ _ _ (fun h=>hk h)];exact e
theorem Oth.grown {w w':World}{B:Nat}{v:Value}{n:Nat}{xs:List Value}(ho:w.ownsRow B 5 1 v n xs)(hg:w.grownBy w' v.ownBlock):Oth w w':=fun k ds T fr e _ b=>by
 rw[hg.block k (lt_of_block e) (fun h=>?_)]
 ·exact e
 ·rcases ho.2 with⟨hv,_⟩ | ⟨g,cap,cur,hv,_,hgb,_⟩
  ·rw [hv]at h;simp[Value.ownBlock]at h
  ·rw [hv]at h
   simp only[Value.ownBlock,Option.some.injEq]at h;subst h;rw[hgb]at e;simp only[Option.some.injEq,Obj.cells.injEq]at e;exact b e.2.1.symm
theorem chk_any (B b:Nat)(bs:List Value)(w:World)(h:Lib.IsBuilder 201 5 B b bs w):
  Calls Tryz.prog 186 #[.pointer (some ⟨b,0,none⟩)] w fun e w'=>e= .returned (.tuple #[])∧(Lib.BuilderAt 201 5 B b (.pointer (some ⟨b,0,none⟩)) bs w'∧Below B w w'∧Oth w w'):=by
 rcases h with h | h
 ·refine (chk_fresh b w h.cell0 h.shape h.frozen0).mono ?_
  rintro e w' ⟨rfl,rfl⟩
  exact⟨rfl,h.used _,(Below.refl B w).setCell (p:=⟨b,0,none⟩) h.1 _,by obtain⟨_,_,hb,_⟩:=h;exact Oth.set hb⟩
 ·refine (chk_used b w h.cell0).mono ?_
  rintro e w' ⟨rfl,rfl⟩
  exact⟨rfl,h,Below.refl B _,Oth.refl _⟩
theorem put_facts {B b:Nat}{v v':Value}{bs:List Value}{w1 w2:World}{k:List Value}(hbk:w1.heap[b]? =some (.cells #[.pointer (some ⟨b,0,none⟩),v] 201 (0,0)))(hne:v.ownBlock≠some b)(hg:w1.grownBy w2 v.ownBlock):
  w2.heap[b]? =some (.cells #[.pointer (some ⟨b,0,none⟩),v] 201 (0,0)):=by
 rw[hg.block b (lt_of_block hbk) (fun e=>hne e.symm)];exact hbk
theorem own_slice {w:World}{B:Nat}{e:TypeId}{v:Value}{n:Nat}{xs:List Value}(h:w.ownsRow B e 1 v n xs):∃ ao n' cap,v= .slice ao n' cap:=by
 rcases h.2 with⟨hv,_⟩ | ⟨g,cap,cur,hv,_⟩
 ·exact ⟨_,_,_,hv⟩
 ·exact ⟨_,_,_,hv⟩
theorem write_any (B b:Nat)(bs:List Value)(s:ByteArray)(w:World)(h:Lib.IsBuilder 201 5 B b bs w)(hlen:bs.length+s.size≤140737488355328)(hBw:B≤w.heap.size):
  Calls Tryz.prog 168 #[.pointer (some ⟨b,0,none⟩),.string s] w fun e w'=>e= .returned (.tuple #[.int .i64 s.size,.nilIface])∧(Lib.IsBuilder 201 5 B b (bs++Lib.strCells s) w'∧Below B w w'∧Oth w w'):=by
 obtain⟨i0,hi,hz0,hz1,hz2⟩:=info_parts infoByte
 have H:Hid (Lib.IsBuilder 201 5 B b bs w):=h;clear h;go_enter Tryz.func168,Tryz.ntmps168;go_wp2_with (go_at_call 186;refine(chk_any B b bs _ H.out).mono ?_);rintro e w1 ⟨rfl,h1,hb1,ho1⟩
 have HO1:Hid (Oth w w1):=ho1;clear ho1;obtain⟨hB,v,hbk,hown,hne⟩:=h1
 have c0:w1.cell? ⟨b,0,none⟩=some (.pointer (some ⟨b,0,none⟩)):=by simp[World.cell?,hbk]
 have c1:w1.cell? ⟨b,1,none⟩=some v:=by simp[World.cell?,hbk]
 have hbs:=hb1.size;go_wp2_with (at_builtin;refine Lib.wpList_append_own_string _ rfl _ _ 199 9 rfl B 5 i0 Tryz.underlying199 Tryz.underlying9 hi hz0 hz1 hz2 _ _ _ rfl hown s rfl (by unfold maxLen;omega) (by omega) (by omega) ?_);intro v' w2 hown' hgrow _;have hb2:=put_facts (v':=v') (bs:=bs) (B:=B) (k:=[]) hbk hne hgrow
 have d0:w2.cell? ⟨b,0,none⟩=some (.pointer (some ⟨b,0,none⟩)):=by simp[World.cell?,hb2]
 have d1:w2.cell? ⟨b,1,none⟩=some v:=by simp[World.cell?,hb2]
 have f1:w2.frozen? ⟨b,1,none⟩=false:=by simp[World.frozen?,hb2]
 obtain⟨ao,n',cap,rfl⟩:=own_slice hown'
 go_wp2;go_ret2;refine⟨rfl,.inr ?_,?_,?_⟩
 ·exact Lib.BuilderAt.put (T:=201) (e:=5) hB hb2 (bs':=bs++Lib.strCells s) (by simpa [Lib.strCells_length] using hown') (by decide)
 ·exact (hb1.grown hgrow (by omega) (fun k hk=>(hown.lt k hk).1)).setCell (p:=⟨b,1,none⟩) hB _
 ·exact (HO1.out.trans (Oth.grown hown hgrow)).trans (Oth.set hb2)
def Bld (B b:Nat)(l:List UInt8)(w:World):Prop:=Lib.IsBuilder 201 5 B b (Lib.byteCells l) w
theorem bat_later {B b:Nat}{p:Value}{bs:List Value}{w w':World}(h:Lib.BuilderAt 201 5 B b p bs w)(hb:Below w.heap.size w w'):Lib.BuilderAt 201 5 B b p bs w':=by
 obtain⟨h1,v,h2,h3,h4⟩:=h
 exact⟨h1,v,(hb.block b (lt_of_block h2)).trans h2,h3.kept (row:=none) ⟨hb.os,hb.tape,hb.output,hb.size,fun k hk _=>hb.block k hk⟩ (by
  cases hv:v.ownBlock with
  | none=>exact .inl rfl
  | some k=>exact .inr (by simp)),h4⟩
theorem Bld.later {B b:Nat}{l:List UInt8}{w w':World}(h:Bld B b l w)(hb:Below w.heap.size w w'):Bld B b l w':=by
 rcases h with h | h
 ·exact .inl (bat_later h hb)
 ·exact .inr (bat_later h hb)
theorem Bld.made (w:World):Bld w.heap.size w.heap.size [] (w.alloc (.cells #[.pointer none,.slice none 0 0] 201)):=by
 refine .inl ⟨Nat.le_refl _,.slice none 0 0,?_,World.ownsRow_nil _ _ _ _,by simp[Value.ownBlock]⟩
 show(w.heap.push _)[w.heap.size]? =_;simp
theorem jjdq (B b:Nat)(l:List UInt8)(s:ByteArray)(w:World)(h:Bld B b l w)(hlen:l.length≤1000000)(hs:s.size≤1000000)(hBw:B≤w.heap.size):
  Calls Tryz.prog 168 #[.pointer (some ⟨b,0,none⟩),.string s] w fun e w'=>e= .returned (.tuple #[.int .i64 s.size,.nilIface])∧(Bld B b (l++s.data.toList) w'∧Below B w w'∧Oth w w'):=by
 refine(write_any B b (Lib.byteCells l) s w h (by rw[Lib.byteCells_length];omega) hBw).mono ?_
 rintro e w' ⟨rfl,h1,h2⟩
 exact⟨rfl,by unfold Bld;rw[Lib.byteCells,List.map_append];exact h1,h2⟩
theorem hidB {p:Prop}(h:p):Hid p:=h
def encY (x:UInt8):List Value:=[.int .u8 x.toNat]
theorem encY_len (x:UInt8):(encY x).length=1:=rfl
theorem encY_one (x:UInt8):∀ u ∈ encY x,u.oneCell'=true:=by
 intro u hu;simp[encY]at hu;subst hu;rfl
theorem jjcz (B b:Nat)(l:List UInt8)(x:UInt8)(c:Int)(w:World)(h:Bld B b l w)(hc:(x.toNat:Int)=c)(hlen:l.length≤1000000)(hBw:B≤w.heap.size):
  Calls Tryz.prog 170 #[.pointer (some ⟨b,0,none⟩),.int .u8 c] w fun e w'=>e= .returned .nilIface∧(Bld B b (l++[x]) w'∧Below B w w'∧Oth w w'):=by
 obtain⟨i0,hi,hz0,hz1,hz2⟩:=info_parts infoByte
 have H:Hid (Lib.IsBuilder 201 5 B b (Lib.byteCells l) w):=h;have HC:Hid ((x.toNat:Int)=c):=hc;clear h hc;go_enter Tryz.func170,Tryz.ntmps170;go_wp2_with (go_at_call 186;refine(chk_any B b (Lib.byteCells l) _ H.out).mono ?_);rintro e w1 ⟨rfl,h1,hb1,ho1⟩
 have HO1:Hid (Oth w w1):=ho1;clear ho1;obtain⟨hB,v,hbk,hown,hne⟩:=h1
 have hbs:=hb1.size;have hA:=(Below.refl w1.heap.size w1).alloc (Nat.le_refl _) (.cells #[.int .u8 c] 5);have hOA:Hid (Oth w1 (w1.alloc (.cells #[.int .u8 c] 5))):=Oth.of hA;have hownA:=World.ownsRow.alloc hown (.cells #[.int .u8 c] 5);have hXr:Row 1 encY (w1.alloc (.cells #[.int .u8 c] 5)) (.slice (some ⟨w1.heap.size,0,none⟩) 1 1) [x]:=by
  rw[← HC.out];exact oneRow (enc:=encY) w1 x rfl 5
 obtain⟨v4,w4,r4,ho4,hg4⟩:=jjbw (P:=Tryz.prog) (w:=w1.alloc (.cells #[.int .u8 c] 5)) encY_len (by decide) encY_one 199 199 B 5 i0 _ 1 Tryz.underlying199 hi hz0 hz1 hz2 rfl v _ _ hownA _ [x] hXr (by rw[Lib.byteCells_length];simp;unfold maxLen;omega) (by rw[Lib.byteCells_length];simp;omega) (by simp;omega)
 have hbkA:(w1.alloc (.cells #[.int .u8 c] 5)).heap[b]? =some (.cells #[.pointer (some ⟨b,0,none⟩),v] 201 (0,0)):=(hA.block b (lt_of_block hbk)).trans hbk;have hb2:=put_facts (v':=v4) (bs:=Lib.byteCells l) (B:=B) (k:=[]) hbkA hne hg4;have c1:w1.cell? ⟨b,1,none⟩=some v:=by simp[World.cell?,hbk]
 have d1:w4.cell? ⟨b,1,none⟩=some v:=by simp[World.cell?,hb2]
 have f1:w4.frozen? ⟨b,1,none⟩=false:=by simp[World.frozen?,hb2]
 have HO4:Hid (Oth w w4):=(HO1.out.trans hOA.out).trans (Oth.grown hownA hg4);have HB4:Hid (Below B w w4):=(hb1.alloc (by omega) _).grown hg4 (by simp;omega) (fun k hk=>(hownA.lt k hk).1);have HOW:Hid (w4.ownsRow B 5 1 v4 (Lib.byteCells (l++[x])).length (Lib.byteCells (l++[x]))):=by
  have h9:=ho4;rw[show (Lib.byteCells (l++[x]))=Lib.byteCells l++[x].flatMap encY by simp[Lib.byteCells,encY],List.length_append];exact h9
 have HB2:=hidB hb2;have HBB:=hidB hB;have HR4:=hidB r4;obtain⟨ao,n',cap,rfl⟩:=own_slice ho4
 clear hbk hown hne hA hownA hXr ho4 hg4 hbkA hb2 hB hb1 hOA HO1 hbs r4;go_wp2_with (at_builtin;refine wpListAppendRun rfl _ _ 199 rfl rfl rfl HR4.out ?_);go_ret;refine⟨rfl,.inr ?_,?_,?_⟩
 ·exact Lib.BuilderAt.put (T:=201) (e:=5) HBB.out HB2.out (bs':=Lib.byteCells (l++[x])) (by simpa using HOW.out) (by decide)
 ·exact HB4.out.setCell (p:=⟨b,1,none⟩) HBB.out _
 ·exact HO4.out.trans (Oth.set HB2.out)
theorem cellsByte :Tryz.prog.cellsOf 5=1:=by kernel_rfl
theorem string_any (B b:Nat)(l:List UInt8)(w:World)(h:Bld B b l w)(h0:l≠[]):
  Calls Tryz.prog 171 #[.pointer (some ⟨b,0,none⟩)] w fun e w'=>e= .returned (.string ⟨l.toArray⟩)∧Below B w w':=by
 obtain⟨p,hB,v,hbk,hown,hne⟩:∃ p,Lib.BuilderAt 201 5 B b p (Lib.byteCells l) w:=by
  rcases h with h | h
  ·exact ⟨_,h⟩
  ·exact ⟨_,h⟩
 have hl0:l.length≠0:=by simpa using h0
 rw[Lib.byteCells_length]at hown;obtain⟨g,cap,cur,rfl,hbg,hg,hnc,hcm,hcs,htake⟩:∃ g cap cur,v= .slice (some ⟨g,0,none⟩) l.length cap∧B≤g∧w.heap[g]? =some (.cells cur 5 (0,0))∧l.length≤cap∧cap≤maxLen∧cur.size=cap*1∧cur.toList.take (l.length*1)=Lib.byteCells l:=by
  rcases hown.2 with⟨_,hz⟩ | ⟨g,cap,cur,hv,r⟩
  ·exact absurd hz hl0
  ·exact ⟨g,cap,cur,hv,r⟩
 have c1:w.drew.cell? ⟨b,1,none⟩=some (.slice (some ⟨g,0,none⟩) l.length cap):=by
  have:w.drew.heap[b]? =some (.cells #[p,.slice (some ⟨g,0,none⟩) l.length cap] 201 (0,0)):=hbk;rw[Lib.cell_of_heap this];rfl
 have hSD:(Builtin.unsafeSliceData_ #[199] 235 #[.slice (some ⟨g,0,none⟩) l.length cap]).run Tryz.prog w.drew= .ok (.pointer (some ⟨g,0,none⟩)) w.drew:=
  Lib.run_unsafeSliceData_row _ _ _ _ _ _ (by omega)
 have hUS:(Builtin.unsafeString_ #[235,3] 9 #[.pointer (some ⟨g,0,none⟩),.int .i64 l.length]).run Tryz.prog w.drew= .ok (.string ⟨l.toArray⟩) (w.drew.freeze ⟨g,0,none⟩ l.length):=by
  refine Lib.run_unsafeString_row w.drew 235 3 9 5 Tryz.underlying235 cellsByte g cur.size (by have hg':w.drew.heap[g]? =some (.cells cur 5 (0,0)):=hg;simp[World.shape?,hg']) l h0 (by omega) (by unfold maxLen at hcm;omega) ?_
  intro j x hx
  have:=hown.cells (g:=g) rfl j (.int .u8 x.toNat) (by simp[Lib.byteCells,hx]);exact this
 have mixed:Tryz.prog.follows Departure.mixedOrders=true:=by kernel_rfl
 clear hbk hown hne htake hg hcs;go_enter Tryz.func171,Tryz.ntmps171;go_wp2;go_region_o
 all_goals (go_wp2;go_ret;exact⟨rfl,Lib.below_freeze (Below.drew (Below.refl B w)) (p:=⟨g,0,none⟩) hbg _⟩)
def Tab (w : World) : Prop := Lib.TabIs Tryz.prog w "internal/strconv.uint64pow10" .u64 Lib.pow10Tab
theorem Tab.later {w w':World}(h:Tab w)(hb:Below w.heap.size w w'):Tab w':=by
  unfold Tab Lib.TabIs at *;unfold World.var? at h ⊢;cases hg : Tryz.prog.globalNamed "internal/strconv.uint64pow10" with
  | none=>rw [hg]at h;simp at h
  | some g=>
    simp only[hg,Option.bind_some]at h ⊢;have hlt:g<w.heap.size:=by
      rcases Nat.lt_or_ge g w.heap.size with h' | h'
      · exact h'
      · rw[Array.getElem?_eq_none h']at h;simp at h
    rw[hb.block g hlt];exact h
theorem below_grow (w:World)(k:Nat)(os:Array Obj):Below w.heap.size w (Sort.grow (w.drewN k) os):=
 ⟨rfl,rfl,rfl,by show w.heap.size≤(w.heap++os).size;simp,fun i hi=>by show(w.heap++os)[i]? =_;rw[Array.getElem?_append,if_pos hi]⟩
theorem itoa_dg (n:Int)(w:World)(ht:Tab w)(h0:0≤n)(h1:n≤2000000000000)(s:ByteArray)(hs:⟨(dgT n).toArray⟩=s):
  Calls Tryz.prog 169 #[.int .i64 n] w fun e w'=>e= .returned (.string s)∧Below w.heap.size w w':=by
 have e:(⟨(Lib.itoa n).toArray⟩:ByteArray)=s:=by rw[← hs,itoa_nat h0];rfl
 refine(Tryz.strconv_Itoa n (by omega) (by omega) w ht).mono ?_
 rw[e];rintro e w' ⟨rfl,k,os,rfl⟩
 exact⟨rfl,below_grow _ _ _⟩
theorem Oth.blk {w w':World}(h:Oth w w'){b:Nat}{cs:Array Value}{t:TypeId}(hb:Blk w b cs t)(h1:t≠201)(h2:t≠5):Blk w' b cs t:=h b cs t (0,0) hb h1 h2
def ShP (p:Pa):Prop:=0≤p.1∧p.1≤100000∧0≤p.2∧p.2≤1000000000000
theorem txL_take {ps:List Pa}{k:Nat}(hk:k<ps.length):txL (ps.take (k+1))=(((txL (ps.take k)++dgT (el ps k).1)++[58])++dgT (el ps k).2)++[32]:=by
 rw[jja0 hk,txL_snoc]
theorem txL_take_len {ps:List Pa}(h:∀ p ∈ ps,ShP p)(hl:ps.length≤1000)(k:Nat):(txL (ps.take k)).length≤28000:=by
 have h1:=txL_len (l:=ps.take k) (fun p hp=>by have:=h p (List.mem_of_mem_take hp);unfold ShP at this;omega);have h2:(ps.take k).length≤1000:=by rw[List.length_take];omega
 omega
theorem textOf_any (base:Nat)(v:Value)(ps:List Pa)(w:World)(h:OwnP w base v ps)(ht:Tab w)(hs:∀ p ∈ ps,ShP p)(h0:ps≠[])(hl:ps.length≤1000):
  Calls Tryz.prog 141 #[v] w fun e w'=>e= .returned (.string ⟨(txL ps).toArray⟩)∧Below w.heap.size w w':=by
 have HP:=hidP h;have HT:=hidP ht;have HS:=hidP hs;have HLN:=hidP (txL_take_len hs hl);have HTL:Hid (∀ k,k<ps.length→txL (ps.take (k+1))=(((txL (ps.take k)++dgT (el ps k).1)++[58])++dgT (el ps k).2)++[32]):=fun k hk=>txL_take hk
 have HALL:Hid (txL (ps.take ps.length)=txL ps):=by show _=_;rw[List.take_length]
 have HNE:Hid (txL ps≠[]):=fun e=>h0 (by
  cases ps with
  | nil=>rfl
  | cons p l=>have h9:=congrArg List.length e;simp[txL,txP]at h9)
 have HEL:Hid (∀ k,k<ps.length→ShP (el ps k)):=fun k hk=>hs _ (jjac hk)
 obtain⟨a,cap,rfl⟩:=h.sl
 have HB0:Hid (Bld w.heap.size w.heap.size [] (w.alloc (.cells #[.pointer none,.slice none 0 0] 201))):=Bld.made w;have HW0:Hid (Below w.heap.size w (w.alloc (.cells #[.pointer none,.slice none 0 0] 201))):=(Below.refl _ _).alloc (Nat.le_refl _) _;clear h ht hs h0;obtain⟨n,hn⟩:∃ n,ps.length=n:=⟨_,rfl⟩
 rw[hn]at hl HP HTL HALL HEL ⊢;have HN:=hidP hn;clear hn;go_enter Tryz.func141,Tryz.ntmps141;go_wp2;go_loopw [8] (fun i wr=>∃ k:Nat,k≤n∧i= .int .i64 k∧Hid (Bld w.heap.size w.heap.size (txL (ps.take k)) wr)∧Hid (Below w.heap.size w wr)) (fun i _=>n-(intOf i).toNat)
 case atStart=>exact ⟨0,Nat.zero_le _,rfl,HB0,HW0⟩
 case round=>
  clear HB0 HW0;obtain⟨k,hk,rfl,hB,hW⟩:=hrel
  obtain⟨w1,hw1⟩:∃ w1,w1=wr:=⟨_,rfl⟩
  subst hw1;by_cases hlt:k<n
  ·have k0:(0:Int)≤(k:Int):=Int.natCast_nonneg _
   have k1:(k:Int)<(n:Int):=by omega
   obtain⟨b,off,hab,hbl,c0,c1⟩:=HP.out.cell (j:=k) (by rw[HN.out];exact hlt)
   subst hab;have c0:=(hW.out.cell (p:=⟨b,off+k*2,none⟩) hbl).trans c0;have c1:=(hW.out.cell (p:=⟨b,off+k*2+1,none⟩) hbl).trans c1;have hsh:=HEL.out k hlt;have HTK:=hidP (HTL.out k hlt);have HL1:=hidP (HLN.out k);obtain⟨pk,hpk⟩:∃ pk,el ps k=pk:=⟨_,rfl⟩
   rw[hpk]at c0 c1 hsh HTK;clear hpk;obtain⟨p0,p1⟩:=pk
   simp only[ShP]at hsh c0 c1 HTK;obtain⟨s0,hs0⟩:∃ s0:ByteArray,⟨(dgT p0).toArray⟩=s0:=⟨_,rfl⟩
   obtain⟨s1,hs1⟩:∃ s1:ByteArray,⟨(dgT p1).toArray⟩=s1:=⟨_,rfl⟩
   have e0:s0.data.toList=dgT p0:=by rw[← hs0]
   have e1:s1.data.toList=dgT p1:=by rw[← hs1]
   have z0:s0.size≤13:=by rw[← hs0];exact jjel (by omega)
   have z1:s1.size≤13:=by rw[← hs1];exact jjel (by omega)
   have HI0:=hidP (fun W hW=>itoa_dg p0 W hW hsh.1 (by omega) s0 hs0);have HI1:=hidP (fun W hW=>itoa_dg p1 W hW hsh.2.2.1 (by omega) s1 hs1);have E0:=hidP e0;have E1:=hidP e1;have hq0:s0.data.toList.length≤13:=z0;have hq1:s1.data.toList.length≤13:=z1;obtain⟨T,hT⟩:∃ T,txL (ps.take k)=T:=⟨_,rfl⟩
   rw[hT]at hB HTK HL1;rw[← e0,← e1]at HTK;have HLA:Hid (T.length≤1000000∧(T++s0.data.toList).length≤1000000∧(T++s0.data.toList++[58]).length≤1000000∧(T++s0.data.toList++[58]++s1.data.toList).length≤1000000):=by
    have:=HL1.out;simp only[List.length_append,List.length_cons,List.length_nil];exact⟨by omega,by omega,by omega,by omega⟩
   clear hT hs0 hs1 e0 e1 hsh HL1;have hA:=(Below.refl w1.heap.size w1).alloc (Nat.le_refl _) (.cells #[.int .i64 p0,.int .i64 p1] 92);have KP:=hidP (Blk.made w1 #[.int .i64 p0,.int .i64 p1] 92);have B1:=hidP (hB.out.later hA);have W1:=hidP (hW.out.trans (hA.mono hW.out.size));have hws:=hW.out.size;clear hA hB hW;go_wp2_with (first
    | (go_at_call 169;(with_reducible refine(HI0.out _ (HT.out.later W1.out)).mono ?_);rintro e w2 ⟨rfl,hb2⟩;have KP2:=hidP (KP.out.below hb2 KP.out.lt);have B2:=hidP (B1.out.later hb2);have W2:=hidP (W1.out.trans (hb2.mono W1.out.size));clear hb2 KP B1 W1 HI0)
    | (go_at_call 168;(with_reducible refine(jjdq _ _ _ s0 _ B2.out HLA.out.1 (by omega) W2.out.size).mono ?_);rintro e w3 ⟨rfl,hB3,hb3,ho3⟩;have KP3:=hidP (ho3.blk KP2.out (by decide) (by decide));have B3:=hidP hB3;have W3:=hidP (W2.out.trans hb3);clear hB3 hb3 ho3 KP2 B2 W2)
    | (go_at_call 170;(with_reducible refine(jjcz _ _ _ 58 58 _ B3.out rfl HLA.out.2.1 W3.out.size).mono ?_);rintro e w4 ⟨rfl,hB4,hb4,ho4⟩;have KP4:=hidP (ho4.blk KP3.out (by decide) (by decide));have d1:=KP4.out.cell 1 (v:= .int .i64 p1) rfl;have B4:=hidP hB4;have W4:=hidP (W3.out.trans hb4);clear hB4 hb4 ho4 KP3 B3 W3)
    | (go_at_call 169;(with_reducible refine(HI1.out _ (HT.out.later W4.out)).mono ?_);rintro e w5 ⟨rfl,hb5⟩;have B5:=hidP (B4.out.later hb5);have W5:=hidP (W4.out.trans (hb5.mono W4.out.size));clear hb5 KP4 B4 W4 HI1)
    | (go_at_call 168;(with_reducible refine(jjdq _ _ _ s1 _ B5.out HLA.out.2.2.1 (by omega) W5.out.size).mono ?_);rintro e w6 ⟨rfl,hB6,hb6,ho6⟩;have B6:=hidP hB6;have W6:=hidP (W5.out.trans hb6);clear hB6 hb6 ho6 B5 W5)
    | (go_at_call 170;(with_reducible refine(jjcz _ _ _ 32 32 _ B6.out rfl HLA.out.2.2.2 W6.out.size).mono ?_);rintro e w7 ⟨rfl,hB7,hb7,ho7⟩;have B7:=hidP hB7;have W7:=hidP (W6.out.trans hb7);clear hB7 hb7 ho7 B6 W6))
   go_roundw
   case rel=>exact ⟨k+1,by omega,by go_num,by rw[HTK.out];exact B7,W7⟩
   case measure=>simp [intOf];omega
  ·have hk1:¬ (k:Int)<(n:Int):=by omega
   obtain rfl:k=n:=by omega
   rw[HALL.out]at hB;go_wp2_with (first
    | (go_at_call 171;(with_reducible refine(string_any _ _ _ _ hB.out HNE.out).mono ?_);rintro e w2 ⟨rfl,hb2⟩;have W2:=hidP (hW.out.trans hb2);clear hb2))
   go_ret;exact⟨rfl,W2.out⟩
open Maps
def MakK (b:Nat)(w w':World):Prop:=w.heap.size≤w'.heap.size∧∀ k cs t,Blk w k cs t→k≠b→t≠94→Blk w' k cs t
theorem MakK.trans {b:Nat}{w w1 w2:World}(h:MakK b w w1)(k:MakK b w1 w2):MakK b w w2:=⟨Nat.le_trans h.1 k.1,fun q cs t hb h1 h2=>k.2 q cs t (h.2 q cs t hb h1 h2) h1 h2⟩
theorem MakK.of {b:Nat}{w w':World}(h:Below w.heap.size w w'):MakK b w w':=⟨h.size,fun k cs t hb _ _=>hb.below h hb.lt⟩
theorem MakK.set {b o:Nat}{w:World}{v:Value}:MakK b w (w.setCell ⟨b,o,none⟩ v):=⟨by simp[World.setCell],fun k cs t hb h1 _=>hb.setO _ _ h1⟩
theorem MakK.sets {b base:Nat}{w w':World}{v:Value}{L:List (List Pa)}(ho:SetsM w base v L)(hg:w.grownBy w' v.ownBlock):MakK b w w':=by
 obtain⟨ss,_,h2,_⟩:=ho
 exact⟨hg.size,fun k cs t hb _ h3=>hb.grown hg (jjak h2 hb (Ne.symm h3))⟩
theorem MakK.map {b m:Nat}{w w':World}{ks:List (List UInt8)}(hm:TxM w m ks)(hg:w.grownBy w' (some m)):MakK b w w':=⟨hg.size,fun k cs t hb _ h2=>hb.grown hg (fun e=>by injection e with e;exact hm.neBlk hb e.symm)⟩
theorem MakK.row {b base:Nat}{w w':World}{e:TypeId}{s:Nat}{v:Value}{n:Nat}{xs:List Value}(hK:MakK b w w')(ho:w.ownsRow base e s v n xs)(he:e≠94)(hb:some b≠v.ownBlock):w'.ownsRow base e s v n xs:=by
 refine⟨ho.1,?_⟩
 rcases ho.2 with hn | ⟨g,cap,cur,rfl,hbg,hgg,rest⟩
 ·exact .inl hn
 ·exact .inr ⟨g,cap,cur,rfl,hbg,hK.2 g cur e hgg (fun e=>hb (by simp[Value.ownBlock,e])) he,rest⟩
theorem MakK.sts {b base:Nat}{w w':World}{v:Value}{l:List St}{cs:Array Value}(hK:MakK b w w')(hb:Blk w b cs 89)(ho:OwnSts w base v l):OwnSts w' base v l:=by
 obtain⟨vs,h1,h2,h3⟩:=ho
 exact⟨vs,hK.row h1 (by decide) (jjak h1 hb (by decide)),h2,fun j hj=>⟨(h3 j hj).1,hK.row (h3 j hj).2 (by decide) (jjak (h3 j hj).2 hb (by decide))⟩⟩
structure MakN (w:World)(base b mb:Nat)(vt vs:Value)(L:List (List Pa))(n:Int):Prop where
 blk:Blk w b #[.map (some mb),vt,vs,.int .i64 n] 89
 tr:TxM w mb (L.map txL)
 trs:SetsM w base vt L
 hb:base≤b
 hm:base≤mb
section
variable {w w':World} {base b mb:Nat} {vt vs:Value} {L:List (List Pa)} {n:Int}
theorem MakN.later (h:MakN w base b mb vt vs L n)(hb:Below w.heap.size w w'):MakN w' base b mb vt vs L n:=
 ⟨h.blk.below hb h.blk.lt,h.tr.keep (hb.block _ h.tr.lt),h.trs.later hb,h.hb,h.hm⟩
theorem MakN.ne (h:MakN w base b mb vt vs L n):b≠mb:=Ne.symm (h.tr.neBlk h.blk)
end
theorem SetsM.keptM {w w':World}{base m:Nat}{v:Value}{L:List (List Pa)}{ks:List (List UInt8)}(h:SetsM w base v L)(hm:TxM w m ks)(hg:w.grownBy w' (some m)):SetsM w' base v L:=by
 obtain⟨ss,h1,h2,h3⟩:=h
 exact⟨ss,h1,h2.kept hg (.inr (Ne.symm (hm.neRow h2))),fun j hj=>World.ownsRow.kept (h3 j hj) hg (.inr (Ne.symm (hm.neRow (h3 j hj))))⟩
def NumOf (L:List (List Pa))(ps:List Pa)(jx:Nat):Prop:=(ps ∈ L→jx<L.length∧el L jx=ps)∧(ps ∉ L→jx=L.length)
theorem makNum_any (base b mb:Nat)(vt vs:Value)(L:List (List Pa))(n:Int)(a:Option Addr)(np c:Nat)(ps:List Pa)(W:World)(h:MakN W base b mb vt vs L n)(hP:OwnP W base (.slice a np c) ps)(ht:Tab W)(hs:∀ p ∈ ps,ShP p)(h0:ps≠[])(hpl:ps.length≤1000)(hLs:∀ qs ∈ L,∀ p ∈ qs,ShP p)(hN:L.Nodup)(hl:L.length<100000)(hbW:base≤W.heap.size):
  Calls Tryz.prog 105 #[.pointer (some ⟨b,0,none⟩),.slice a np c] W fun e W'=>∃ jx:Nat,e= .returned (.int .i64 (jx:Int))∧NumOf L ps jx∧(∃ vt',MakN W' base b mb vt' vs (addG L ps) n)∧MakK b W W'∧Below base W W':=by
 have hinj:∀ qs ∈ L,txL qs=txL ps→qs=ps:=fun qs hq e=>txL_inj (fun p hp=>by have:=hLs qs hq p hp;unfold ShP at this;omega) (fun p hp=>by have:=hs p hp;unfold ShP at this;omega) e
 have hNT:(L.map txL).Nodup:=by
  rw[List.nodup_iff_pairwise_ne,List.pairwise_map];exact hN.imp_of_mem fun {x y} hx hy hxy e=>hxy (txL_inj (fun p hp=>by have:=hLs x hx p hp;unfold ShP at this;omega) (fun p hp=>by have:=hLs y hy p hp;unfold ShP at this;omega) e)
 have hlen:(txL ps).length≤1000000:=by
  have h1:=txL_len (l:=ps) (fun p hp=>by have:=hs p hp;unfold ShP at this;omega);omega
 have HTX:=hidP (textOf_any base (.slice a np c) ps W hP ht hs h0 hpl);have H:=hidP h;have HP:=hidP hP;have bl:=h.blk.lt;by_cases hmem:ps ∈ L
 ·obtain ⟨i,hi,hei⟩:=jja1 hmem
  have HI:Hid (el (L.map txL) i=txL ps):=by show _=_;rw[jja2 hi,hei]
  have HLK:Hid (∀ W',Below W.heap.size W W'→(Instr.lookup 86 (.map (some mb)) (.string ⟨(txL ps).toArray⟩) true).run Tryz.prog W'= .ok (.tuple #[.int .i64 (i:Int),.bool true]) W'):=fun W' hW=>(h.later hW).tr.look_old hlen hNT (by rw[List.length_map];exact hi) HI.out
  have HNO:Hid (NumOf L ps i):=⟨fun _=>⟨hi,hei⟩,fun g=>absurd hmem g⟩
  have HAD:=hidP (jjd4 hmem);clear h hP ht hs h0 hLs hN hinj hNT hlen hmem hei HI hi;generalize (⟨(txL ps).toArray⟩:ByteArray)=tx at HTX HLK;go_enter Tryz.func105,Tryz.ntmps105;go_wp2_with (first
   | (go_at_call 141;(with_reducible refine HTX.out.mono ?_);rintro e w2 ⟨rfl,hb2⟩;have hlk:=HLK.out w2 hb2;have H2:=hidP (H.out.later hb2);have c0:=H2.out.blk.cell 0 (v:= .map (some mb)) rfl;have HB2:=hidP hb2;clear hb2 HLK HTX))
  go_ret;exact⟨i,rfl,HNO.out,⟨vt,by rw[HAD.out];exact H2.out⟩,MakK.of HB2.out,HB2.out.mono hbW⟩
 ·have hno:txL ps ∉ L.map txL:=fun g=>by
   obtain⟨qs,hq,e⟩:=List.mem_map.1 g
   exact hmem (hinj qs hq e▸hq)
  have HLK:Hid (∀ W',Below W.heap.size W W'→(Instr.lookup 86 (.map (some mb)) (.string ⟨(txL ps).toArray⟩) true).run Tryz.prog W'= .ok (.tuple #[.int .i64 0,.bool false]) W'):=fun W' hW=>(h.later hW).tr.look_new hlen hno
  have HNO:Hid (NumOf L ps L.length):=⟨fun g=>absurd g hmem,fun _=>rfl⟩
  have HAD:=hidP (jjd5 hmem);have HUP:Hid (∀ W',Below W.heap.size W W'→∃ w',(Instr.mapUpdate 86 (.map (some mb)) (.string ⟨(txL ps).toArray⟩) (.int .i64 (L.length:Int))).run Tryz.prog W'= .ok () w'∧TxM w' mb ((L++[ps]).map txL)∧W'.grownBy w' (some mb)):=fun W' hW=>by
   obtain⟨w9,h1,h2,h3⟩:=(h.later hW).tr.put hlen hno (by rw[List.length_map];exact hl)
   rw[List.length_map]at h1;exact⟨w9,h1,by rw[List.map_append];exact h2,h3⟩
  obtain⟨at0,ct0,hvt⟩:=h.trs.sl
  clear h hP ht hs h0 hLs hN hinj hNT hlen hmem hno;generalize (⟨(txL ps).toArray⟩:ByteArray)=tx at HTX HLK HUP;subst hvt;obtain⟨nL,hnL⟩:∃ nL,L.length=nL:=⟨_,rfl⟩
  rw[hnL]at HNO HUP H hl;have HNL:=hidP hnL;clear hnL;go_enter Tryz.func105,Tryz.ntmps105;go_wp2_with (first
   | (go_at_call 141;(with_reducible refine HTX.out.mono ?_);rintro e w2 ⟨rfl,hb2⟩;have hlk:=HLK.out w2 hb2;have H2:=hidP (H.out.later hb2);have P2:=hidP (HP.out.later hb2);have c0:=H2.out.blk.cell 0 (v:= .map (some mb)) rfl;have c1:=H2.out.blk.cell 1 (v:= .slice at0 nL ct0) rfl;have HB2:=hidP hb2;obtain⟨w4,hup,hM4,hg4⟩:=HUP.out w2 hb2;have B4:=hidP (H2.out.blk.grown hg4 (fun e=>H2.out.ne (by injection e)));have S4:=hidP (H2.out.trs.keptM H2.out.tr hg4);have P4:Hid (OwnP w4 base (.slice a np c) ps):=(World.ownsRow.kept P2.out hg4 (.inr (Ne.symm (H2.out.tr.neRow P2.out))));have K4:=hidP ((MakK.of (b:=b) hb2).trans (MakK.map H2.out.tr hg4));have W4:=hidP ((hb2.mono hbW).grown hg4 (Nat.le_trans hbW hb2.size) (fun k hk=>by cases hk;exact H2.out.hm));have M4:=hidP hM4;have d1:=B4.out.cell 1 (v:= .slice at0 nL ct0) rfl;obtain⟨v6,w6,hr6,ho6,hb6,hg6⟩:=S4.out.push P4.out (by rw[HNL.out];omega) (Nat.le_trans hbW W4.out.size);have HR6:=hidP hr6;have hA6:=(Below.refl w4.heap.size w4).alloc (Nat.le_refl _) (.cells #[.slice a np c] 94);have SA:=S4.out.later hA6;have B6:=hidP ((B4.out.below hA6 B4.out.lt).grown hg6 (by obtain⟨ss,_,hh,_⟩:=SA;exact jjak hh (B4.out.below hA6 B4.out.lt) (by decide)));have M6:=hidP ((M4.out.keep (hA6.block _ M4.out.lt)).keep (hg6.block _ (Nat.lt_of_lt_of_le M4.out.lt hA6.size) (by obtain⟨ss,_,hh,_⟩:=SA;exact(M4.out.keep (hA6.block _ M4.out.lt)).neRow hh)));have K6:=hidP ((K4.out.trans (MakK.of hA6)).trans (MakK.sets SA hg6));have W6:=hidP (W4.out.trans hb6);have S6:=hidP ho6;obtain⟨a6,n6,c6,hv6⟩:=(by obtain⟨x,y,e⟩:=ho6.sl;exact⟨x,_,y,e⟩:∃ x n y,v6= .slice x n y);subst hv6;have f1:=B6.out.fz 1;have g1:=B6.out.cell 1 (v:= .slice at0 nL ct0) rfl;clear hb2 HLK HTX HUP hM4 hg4 hr6 ho6 hb6 hg6 hA6 SA S4 P4 P2)
   | (at_builtin;refine wpListAppendRun rfl _ _ 87 rfl rfl rfl HR6.out ?_))
  go_ret;have S7:SetsM (w6.setCell ⟨b,1,none⟩ (.slice a6 n6 c6)) base (.slice a6 n6 c6) (L++[ps]):=S6.out.setB B6.out (by decide) (by decide) 1 _;exact⟨nL,rfl,HNO.out,⟨_,by rw[HAD.out];exact⟨B6.out.set 1 _,M6.out.keep (Below.heap_setCell w6 ⟨b,1,none⟩ _ mb (M6.out.neBlk B6.out)),S7,H.out.hb,H.out.hm⟩⟩,K6.out.trans MakK.set,W6.out.setCell (p:=⟨b,1,none⟩) H.out.hb _⟩
theorem makFull_any (base b mb:Nat)(vt vs:Value)(L:List (List Pa))(n:Int)(W:World)(h:MakN W base b mb vt vs L n)(r:Bool)(hr:decide (400<n∨60<L.length)=r):
  Calls Tryz.prog 110 #[.pointer (some ⟨b,0,none⟩)] W fun e W'=>e= .returned (.bool r)∧W=W':=by
 obtain⟨at0,ct0,hvt⟩:=h.trs.sl
 subst hvt;have c3:=h.blk.cell 3 (v:= .int .i64 n) rfl;have c1:=h.blk.cell 1 (v:= .slice at0 L.length ct0) rfl;clear h;generalize L.length=nL at *;by_cases h1:400<n
 ·have HR:Hid (r=true):=by show _=_;rw[← hr];exact decide_eq_true (.inl h1)
  clear hr;go_enter Tryz.func110,Tryz.ntmps110;go_wp2;go_ret;exact⟨by rw[HR.out];rfl,rfl⟩
 ·by_cases h2:60<nL
  ·have HR:Hid (r=true):=by show _=_;rw[← hr];exact decide_eq_true (.inr h2)
   have h2':(60:Int)<(nL:Int):=by omega
   have h1':decide (400<n)=false:=decide_eq_false h1;clear hr;go_enter Tryz.func110,Tryz.ntmps110;go_wp2;go_ret;exact⟨by rw[HR.out];rfl,rfl⟩
  ·have HR:Hid (r=false):=by show _=_;rw[← hr];exact decide_eq_false (fun g=>g.elim h1 h2)
   have h2':¬ (60:Int)<(nL:Int):=by omega
   have h1':decide (400<n)=false:=decide_eq_false h1;clear hr;go_enter Tryz.func110,Tryz.ntmps110;go_wp2;go_ret;exact⟨by rw[HR.out];rfl,rfl⟩
end Wt
namespace Pl
theorem SetN.mono {n:Nat}{B C:Int}{S:List Int}(h:SetN n B S)(hc:B≤C):SetN n C S:=⟨h.len,fun q hq=>(h.rng q hq).imp id fun g=>⟨g.1,Int.le_trans g.2 hc⟩⟩
section
variable {m:Mc} {z:Nat} {L:List (List Int)} {X:List St} {W:Int}
theorem cer_sets (hf:faultM m=0)(hz:z<m.2.length)(hW:0≤W∧W≤1000000000)(hw:∀ q a,a ∈ (el m.2 q).2→a.2.2.1≤W){q:Nat}(hE:ExpI (finC m.2) (hopsC m.2) (iniS m.2.length z) q L X):∀ i,i<L.length→SetN m.2.length (W*i) (el L i):=by
  intro i;induction i using Nat.strongRecOn with
  | _ i ih=>
    intro hi;by_cases h0:i=0
    · subst h0
      rw[hE.zero.2.1];simpa using iniS_set hz
    · obtain⟨j,h,h1,_,h2,h3⟩:=hE.led i (by omega) hi
      have hS:=ih j h1 (by omega);unfold hopsC at h2;obtain⟨p,hp,rfl⟩:=List.mem_map.1 h2
      have hl:=hE.l60;have hb:W*(j:Int)≤1000000000*60:=by
        have h4:W*(j:Int)≤1000000000*(j:Int):=Int.mul_le_mul_of_nonneg_right hW.2 (by omega);omega
      have h5:=(jjcr hf hS hw (by unfold noneI;omega) hp).2.2.1;rw[h3]at h5;refine h5.mono ?_
      have e:W*(j:Int)+W=W*((j:Int)+1):=by rw[Int.mul_add,Int.mul_one]
      rw[e];exact Int.mul_le_mul_of_nonneg_left (by omega) hW.1
theorem jjem (hf:faultM m=0)(hz:z<m.2.length){q:Nat}(hE:ExpI (finC m.2) (hopsC m.2) (iniS m.2.length z) q L X){t:List Int}(ht:t ∈ L):SetN m.2.length 60000000000 t:=by
 obtain⟨h1,h2⟩:=jjck ht
 have h3:=cer_sets (W:=1000000000) hf hz (by omega) (fun q a ha=>(jjb0 hf (el_in ha) ha).2.1) hE _ h1;rw[h2]at h3
 have:=hE.l60;exact h3.mono (by omega)
theorem cer_ways (hf:faultM m=0)(hz:z<m.2.length)(hE:ExpI (finC m.2) (hopsC m.2) (iniS m.2.length z) L.length L X){u v:List Int}{t:List Int}{c:Nat}(h:HopG (hopsC m.2) (iniS m.2.length z) u v t c):
    ∀ p,p<m.2.length→el t p≠noneI→Way m.2 z u v p (c+(el t p).toNat):=by
  induction h with
  | nil=>
    intro p hp hn;rw[jjdo hz hp]at hn ⊢;by_cases e:p=z
    · subst e
      rw[if_pos rfl];exact .nil
    · rw[if_neg e]at hn
      exact absurd rfl hn
  | snoc hw hh ih=>
    rename_i u v t c h
    intro p hp hn;have hS:=jjem hf hz hE (hE.hop hw).1;unfold hopsC at hh;obtain⟨r,hr,rfl⟩:=List.mem_map.1 hh
    obtain⟨f1,f2,f3,f4,f5⟩:=jjcr (W:=1000000000) hf hS (fun q a ha=>(jjb0 hf (el_in ha) ha).2.1) (by unfold noneI;omega) hr
    obtain⟨q,hq,hs,a,ha,e1,e2,e3,e4⟩:=f4 p hp hn
    have h1:=ih q hq hs;have h2:=h1.snoc ha e3;have g1:=(jjb0 hf hq ha).1;have g2:0≤el t q:=by
      rcases hS.rng q hq with g | g
      · exact absurd g hs
      · exact g.1
    have g3:0≤el (hopC m.2 t r).2.2.2 p:=by
      rcases f3.rng p hp with g | g
      · exact absurd g hn
      · exact g.1
    have e5:c+(el t q).toNat+a.2.2.1.toNat=c+(hopC m.2 t r).2.2.1.toNat+(el (hopC m.2 t r).2.2.2 p).toNat:=by omega
    rw[e5,e1,e2]at h2;exact h2
theorem cer_hops (hf:faultM m=0)(hz:z<m.2.length)(hE:ExpI (finC m.2) (hopsC m.2) (iniS m.2.length z) L.length L X){u v:List Int}{p c:Nat}(h:Way m.2 z u v p c):
    p<m.2.length∧∃ t d,HopG (hopsC m.2) (iniS m.2.length z) u v t d∧el t p≠noneI∧(d:Int)+el t p≤(c:Int):=by
  induction h with
  | nil=>exact ⟨hz,_,0,.nil,by rw[jjdo hz hz,if_pos rfl];decide,by rw[jjdo hz hz,if_pos rfl];decide⟩
  | snoc hw ha ht ih=>
    rename_i u v q c a p
    obtain⟨hq,t,d,h1,h2,h3⟩:=ih
    have hS:=jjem hf hz hE (hE.hop h1).1;obtain⟨g1,g2,p',g3,g4⟩:=jjb0 hf hq ha
    obtain rfl:p'=p:=by omega
    have hr:(a.1,a.2.1) ∈ prsL m.2 t:=mem_prsL.2 ⟨q,hq,h2,a,ha,rfl⟩;obtain⟨f1,f2,f3,f4,f5⟩:=jjcr (W:=1000000000) hf hS (fun q a ha=>(jjb0 hf (el_in ha) ha).2.1) (by unfold noneI;omega) hr
    obtain⟨k1,k2⟩:=f5 q hq h2 a ha rfl rfl p' ht
    have hm:hopC m.2 t (a.1,a.2.1) ∈ hopsC m.2 t:=List.mem_map_of_mem hr;exact⟨g4,_,_,h1.snoc hm,k1,by omega⟩
end
end Go.Proofs.YtppkiejhhmahcaaGreatDoor.Pl
