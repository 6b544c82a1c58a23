/-
  A part of a proof. No conditions.
-/
import Derived.Test.YtllhobicfclheaaGreatDoorY03
namespace Go.Proofs.YtllhobicfclheaaGreatDoor
open Go.ChangeShapes Go.WideShapes Go.ChangeAt Go.RowKit
set_option linter.unusedVariables false
set_option maxRecDepth 100000
set_option maxHeartbeats 51200000
namespace Bk
open Cur Oct
theorem b0a (w:World)(o:Obj):(w.alloc o).heap.size=w.heap.size+1:=by show(w.heap.push o).size=_;simp
theorem below_setRow {B:Nat}{a w:World}(h:Below B a w){g:Nat}(hg:B≤g)(cs:Array Value):Below B a (w.setRow g cs):=
  h.trans ⟨rfl,rfl,rfl,by simp,fun k hk=>setRow_other w g k cs (by omega)⟩
def Bk (t:TypeId)(w:World)(b:Nat)(cs:Array Value):Prop:=w.heap[b]?=some (.cells cs t (0,0))
section
variable {t:TypeId} {w w':World} {b:Nat} {cs cs':Array Value}
theorem Bk.lt (h:Bk t w b cs):b<w.heap.size:=(Array.getElem?_eq_some_iff.1 h).1
theorem Bk.below (h:Bk t w b cs)(hb:Below w.heap.size w w'):Bk t w' b cs:=(hb.block b h.lt).trans h
theorem Bk.under {B:Nat}(h:Bk t w b cs)(hb:Below B w w')(hB:b<B):Bk t w' b cs:=(hb.block b hB).trans h
theorem Bk.new (t:TypeId)(w:World)(cs:Array Value):Bk t (w.alloc (.cells cs t)) w.heap.size cs:=heap_alloc_new w _
theorem Bk.old (h:Bk t w b cs)(o:Obj):Bk t (w.alloc o) b cs:=(heap_alloc_old w o h.lt).trans h
theorem Bk.row {g:Nat}(h:Bk t w b cs)(hn:b≠g)(cs':Array Value):Bk t (w.setRow g cs') b cs:=(setRow_other w g b cs' hn).trans h
theorem Bk.put (h:Bk t w b cs)(cs':Array Value):Bk t (w.setRow b cs') b cs':=setRow_heap w b cs cs' _ _ h
theorem Bk.set {i:Nat}{v:Value}(h:Bk t w b cs)(hm:cs.setIfInBounds i v=cs'):Bk t (w.setCell ⟨b,i,none⟩ v) b cs':=by
 have:=heap_setCell_same w b i cs t v h;rw[hm]at this;exact this
theorem Bk.off (h:Bk t w b cs){p:Addr}(hn:b≠p.block)(v:Value):Bk t (w.setCell p v) b cs:=(heap_setCell_other w p b v hn).trans h
theorem Bk.over {c:Nat}{cs2:Array Value}(h:Bk t w b cs)(hn:b≠c)(hb:Below w.heap.size (w.setRow c cs2) w'):Bk t w' b cs:=(h.row hn cs2).under hb h.lt
theorem w0y {B:Nat}{a:World}{c:Nat}{cs2:Array Value}(h:Below B a w)(hc:B≤c)(hB:B≤w.heap.size)(hb:Below w.heap.size (w.setRow c cs2) w'):Below B a w':=(below_setRow h hc cs2).trans (hb.mono hB)
theorem m0r (h:Below w.heap.size w w')(hb:Bk t w b cs)(cs2:Array Value):Below w.heap.size (w.setRow b cs2) (w'.setRow b cs2):=by
 refine⟨h.os,h.tape,h.output,by simpa using h.size,fun k hk=>?_⟩
 by_cases e:k=b
 · subst e;rw[setRow_heap w k cs cs2 _ _ hb,setRow_heap w' k cs cs2 _ _ (hb.below h)]
 · rw[setRow_other _ _ _ _ e,setRow_other _ _ _ _ e];exact h.block k hk
theorem Bk.drew (h:Bk t w b cs):Bk t w.drew b cs:=h
theorem Bk.cell (h:Bk t w b cs)(j:Nat)(v:Value)(hv:cs[j]?=some v):w.cell? ⟨b,j,none⟩=some v:=by
 rw[cell_of_row w b j cs _ _ h,hv]
theorem Bk.frozen (h:Bk t w b cs)(j:Nat):w.frozen? ⟨b,j,none⟩=false:=frozen_of_row w b j cs _ h
end
def Sh (P:Program)(ty:TypeId)(n:Nat):Prop:=∃ fs,P.underlying ty=some (.struct fs)∧(P.info? ty).map (·.size)=some n
section
variable {P:Program}
theorem f0a {ops:Array Oper}{rest:List Oper}{o:Oper}{a:Act}{w:World}{Q:Exit→Act→World→Prop}{ty tb:TypeId}{n:Nat}(hs:Sh P ty n)
    (hgd:o.guard=none) (x:Operand) (ho:o.op = .load ty x) {b:Nat} (hx:a.eval x = .pointer (some ⟨b,0,none⟩)) {cs:Array Value} (hb:Bk tb w b cs) (hn:cs.size=n)
    (h:wpList P ops Q rest (a.put o.dst (.agg cs)) w):wpList P ops Q (o::rest) a w:=by
 subst hn;obtain⟨d,h1,h3⟩:=hs;exact wpList_load_row hgd ty x ho b hx tb cs (0,0) _ hb h1 rfl h3 h
theorem a0a {ops:Array Oper}{rest:List Oper}{o:Oper}{a:Act}{w:World}{Q:Exit→Act→World→Prop}{ty tb:TypeId}{n:Nat}(hs:Sh P ty n)
    (hgd:o.guard=none) (x y:Operand) (ho:o.op = .store ty x y) {b:Nat} (hx:a.eval x = .pointer (some ⟨b,0,none⟩)) {cs cs':Array Value} (hy:a.eval y = .agg cs') (hb:Bk tb w b cs) (hn:cs.size=n) (hn':cs'.size=n) (h1:(cs'.all fun x=>x.oneCell')=true)
    (h:wpList P ops Q rest (a.put o.dst undef) (w.setRow b cs')):wpList P ops Q (o::rest) a w:=by
 obtain⟨d,_,h3⟩:=hs
 exact wpList_store_row hgd ty x y ho b cs' hx hy tb cs hb (by rw[h3,hn']) (by rw[hn,hn']) h1 h
theorem d0a {ops:Array Oper}{rest:List Oper}{o:Oper}{a:Act}{w:World}{Q:Exit→Act→World→Prop}(hg:o.guard=none)(t:TypeId)(parts:Array (Nat×Operand))(ho:o.op = .build t parts)
    (cells:Array Value) (hc:P.built t (parts.map fun(i,x)=>(i,a.eval x)).toList=some cells)
    (h:wpList P ops Q rest (a.put o.dst (.agg cells)) w):wpList P ops Q (o::rest) a w:=
  wpList_build hg t parts ho (by rw[hc];rfl) (by rw[hc];exact h)
theorem loadVarK {w:World}{b n:Nat}{ty tb:TypeId}{cs:Array Value}(hs:Sh P ty n)(h:Bk tb w b cs)(hn:cs.size=n):(loadVar ty ⟨b,0,none⟩).run P w = .ok (.agg cs) w:=by
 subst hn;obtain⟨d,h1,h3⟩:=hs;exact run_loadVar_row w b tb ty cs (0,0) _ h h1 rfl h3
theorem o0a {o:Oper}{ρ:Operand→Value}{x:Operand}{b n:Nat}{ty tb:TypeId}{cs:Array Value}{w:World}(hs:Sh P ty n)(ho:o.op = .load ty x)(hx:ρ x = .pointer (some ⟨b,0,none⟩))(hb:Bk tb w b cs)(hn:cs.size=n) :
    (execOp ρ o).run P w = .ok (.value (.agg cs)) w:=by
 unfold execOp;simp only[ho,hx,Instr.loadAt,Instr.sureAddr,Sem.run_bind,Sem.run_pure,Result.andThen_ok,loadVarK hs hb hn]
theorem m0a {fn:Func}{p q:Nat}{ty:TypeId}(h:fn.results = #[.cell p ty,.tmp q])(tmps:Array Value)(w:World)(g:Nat)(u:Value)
    (hp:tmps.getD p undef = .pointer (some ⟨g,0,none⟩)) (hl:(loadVar ty ⟨g,0,none⟩).run P w = .ok u w) (v:Value) (hv:tmps.getD q undef=v) :
    (results fn tmps).run P w = .ok (.tuple #[u,v]) w:=by
 refine' qz30;simp[results,h,hp',hv',asAddr,hl]
theorem q0a {fn:Func}{p n:Nat}{ty tb:TypeId}(h:fn.results = #[.cell p ty])(tmps:Array Value)(w:World)(g:Nat)(cs:Array Value)
    (hp:tmps.getD p undef = .pointer (some ⟨g,0,none⟩)) (hs:Sh P ty n) (hb:Bk tb w g cs) (hn:cs.size=n) :
    (results fn tmps).run P w = .ok (.agg cs) w:=by
 have hp':tmps[p]?.getD undef = .pointer (some ⟨g,0,none⟩):=by simpa using hp
 simp[results,h,hp',asAddr,loadVarK hs hb hn]
end
structure E where
  (fam tag:Int) (addr mask next:ByteArray) (met:Int)
def E.cells (e:E):Array Value:=#[.int .i64 e.fam,.int .i64 e.tag,.string e.addr,.string e.mask,.string e.next,.int .i64 e.met]
def E.zero:E:=⟨0,0,⟨#[]⟩,⟨#[]⟩,⟨#[]⟩,0⟩
theorem E.one (e:E):(e.cells.all fun x=>x.oneCell')=true:=by simp[E.cells,Value.oneCell']
theorem shE:Sh Tryz.prog 59 6:=⟨_,Tryz.underlying59,by kernel_rfl⟩
theorem shC:Sh Tryz.prog 150 4:=⟨_,Tryz.underlying150,by kernel_rfl⟩
def cur (s:ByteArray)(a n:Int)(b:Bool):Array Value:=#[.string s,.int .i64 a,.int .i64 n,.bool b]
theorem w0a (s:ByteArray)(a n:Int)(b:Bool):((cur s a n b).all fun x=>x.oneCell')=true:=by simp[cur,Value.oneCell']
end Bk
namespace Ent
open Cur Bk
theorem rdnum (s:ByteArray)(a k b:Nat)(ai ki ci ni:Int)(w:World)(hai:ai=a)(hki:ki=k)(hci:ci=(a:Int)+k)(hni:ni=s.size)(hb:Bk 153 w b (cur s ai ni false))(hs:s.size≤maxLen)(h3:a+k≤s.size)(h4:1≤k)(h5:k≤7) :
    Calls Tryz.prog 214 #[.pointer (some ⟨b,0,none⟩),.int .i64 ki] w fun e w'=>e = .returned (.int .i64 (numL ((s.data.toList.drop a).take k)))∧Bk 153 w' b (cur s ci ni false)∧Below w.heap.size (w.setRow b (cur s ci ni false)) w':=by
 subst hai hki hci hni;refine' qz4n;have hlt:=hb.lt;clear hb;refine' qz3v
 refine(p0d s a s.size k w hs (by omega) (Nat.le_refl _) h3 h4 h5).mono ?_
 refine' qz7t;have hlt1:=HB1.out.lt
 go_wp2_with (first|(refine a0a (b:=b) shC rfl _ _ rfl rfl rfl (HB1.out.old _) rfl rfl (w0a s ((a:Int)+k) s.size false) ?_))
 go_ret;exact⟨rfl,(HB1.out.old _).put _,m0r (hb1.alloc hb1.size _) HB.out _⟩
theorem rdtext (s:ByteArray)(a k b:Nat)(ai ki ci ni:Int)(w:World)(hai:ai=a)(hki:ki=k)(hci:ci=(a:Int)+k)(hni:ni=s.size)(hb:Bk 153 w b (cur s ai ni false))(hs:s.size≤maxLen)(h3:a+k≤s.size)(h4:1≤k)(h5:k≤7) :
    Calls Tryz.prog 215 #[.pointer (some ⟨b,0,none⟩),.int .i64 ki] w fun e w'=>e = .returned (.string (s.extract a (a+k)))∧Bk 153 w' b (cur s ci ni false)∧Below w.heap.size (w.setRow b (cur s ci ni false)) w':=by
 subst hai hki hci hni;refine' qz4n;have hlt:=hb.lt;clear hb;refine' qz3v
 refine(e0d s a s.size k w hs (by omega) (Nat.le_refl _) h3).mono ?_
 refine' qz7t;have hlt1:=HB1.out.lt
 go_wp2_with (first|(refine a0a (b:=b) shC rfl _ _ rfl rfl rfl (HB1.out.old _) rfl rfl (w0a s ((a:Int)+k) s.size false) ?_))
 go_ret;exact⟨rfl,(HB1.out.old _).put _,m0r (hb1.alloc hb1.size _) HB.out _⟩
def E.of (s:ByteArray):E:=⟨numL (s.data.toList.take 2),numL ((s.data.toList.drop 2).take 2),s.extract 4 8,s.extract 8 12,s.extract 12 16,numL ((s.data.toList.drop 16).take 4)⟩
structure G (w0 w:World)(eb rb:Nat)(e:E)(s:ByteArray)(a:Int):Prop where
  ent:Bk 59 w eb e.cells
  rd:Bk 153 w rb (cur s a 20 false)
  res:Bk 59 w w0.heap.size E.zero.cells
  o1:w0.heap.size<eb
  o2:eb<rb
  bel:Below w0.heap.size w0 w
theorem G.call {w0 w w':World}{eb rb:Nat}{e:E}{s:ByteArray}{a a':Int}(g:G w0 w eb rb e s a)(h:Bk 153 w' rb (cur s a' 20 false))(hb:Below w.heap.size (w.setRow rb (cur s a' 20 false)) w'):G w0 w' eb rb e s a':=
  ⟨g.ent.over (by have:=g.o2;omega) hb,h,g.res.over (by have:=g.o1;have:=g.o2;omega) hb,g.o1,g.o2,w0y g.bel (by have:=g.o1;have:=g.o2;omega) g.bel.size hb⟩
theorem G.set {w0 w:World}{eb rb:Nat}{e e':E}{s:ByteArray}{a:Int}(g:G w0 w eb rb e s a){i:Nat}{v:Value}(hm:e.cells.setIfInBounds i v=e'.cells):G w0 (w.setCell ⟨eb,i,none⟩ v) eb rb e' s a:=
  ⟨g.ent.set hm,g.rd.off (by have:=g.o2;show rb≠eb;omega) _,g.res.off (by have:=g.o1;show w0.heap.size≠eb;omega) _,g.o1,g.o2,g.bel.setCell (p:=⟨eb,i,none⟩) (by have:=g.o1;show w0.heap.size≤eb;omega) _⟩
theorem p0u (s:ByteArray)(w:World)(hs:s.size=20) :
    Calls Tryz.prog 154 #[.string s] w fun e w'=>e = .returned (.tuple #[.agg (E.of s).cells,.bool true])∧Below w.heap.size w w':=by
 refine' qzd2;refine' qz16;refine(o0c s _ hm).mono ?_;refine' qz10;refine' qzg
 have G0:G w (w1.alloc (.cells (cur s 0 20 false) 153)) (w.heap.size+1) w1.heap.size E.zero s 0:=by
  have h1:=(Bk.new 59 w E.zero.cells).old (.cells E.zero.cells 59);have h2:=Bk.new 59 (w.alloc (.cells E.zero.cells 59)) E.zero.cells;have hl:=hb1.size;rw[b0a,b0a]at hl;rw[b0a]at h2
  exact⟨(h2.below hb1).old _,Bk.new _ _ _,(h1.below hb1).old _,by omega,by omega,(((((Below.refl w.heap.size w).alloc (Nat.le_refl _) _).alloc (by rw[b0a];omega) _).trans (hb1.mono (by rw[b0a,b0a];omega))).alloc (by omega) _)⟩
 clear hb1;change Calls _ _ _ (w1.alloc (.cells (cur s 0 20 false) 153)) _;generalize w1.alloc _=W at *;generalize w1.heap.size=rb at *
 refine(rdnum s 0 2 rb 0 2 2 20 _ rfl rfl rfl (by rw[hs];rfl) G0.rd hm (by omega) (by omega) (by omega)).mono ?_
 rintro e V0 ⟨rfl,hr,hbl⟩;replace G0:=G0.call hr hbl;have cE:=G0.ent.cell 0 (.int .i64 0) rfl;have fE:=G0.ent.frozen 0;clear hr hbl;refine' qzg;replace G0:G w _ _ _ ⟨numL (s.data.toList.take 2),0,⟨#[]⟩,⟨#[]⟩,⟨#[]⟩,0⟩ s 2:=G0.set (e':=⟨numL (s.data.toList.take 2),0,⟨#[]⟩,⟨#[]⟩,⟨#[]⟩,0⟩) (i:=0) rfl;refine' qzab
 refine(rdnum s 2 2 rb 2 2 4 20 _ rfl rfl rfl (by rw[hs];rfl) G0.rd hm (by omega) (by omega) (by omega)).mono ?_
 rintro e V1 ⟨rfl,hr,hbl⟩;replace G0:=G0.call hr hbl;have cE:=G0.ent.cell 1 (.int .i64 0) rfl;have fE:=G0.ent.frozen 1;clear hr hbl;refine' qzg;replace G0:G w _ _ _ ⟨numL (s.data.toList.take 2),numL ((s.data.toList.drop 2).take 2),⟨#[]⟩,⟨#[]⟩,⟨#[]⟩,0⟩ s 4:=G0.set (e':=⟨numL (s.data.toList.take 2),numL ((s.data.toList.drop 2).take 2),⟨#[]⟩,⟨#[]⟩,⟨#[]⟩,0⟩) (i:=1) rfl;refine' qzab
 refine(rdtext s 4 4 rb 4 4 8 20 _ rfl rfl rfl (by rw[hs];rfl) G0.rd hm (by omega) (by omega) (by omega)).mono ?_
 rintro e V2 ⟨rfl,hr,hbl⟩;replace G0:=G0.call hr hbl;have cE:=G0.ent.cell 2 (.string ⟨#[]⟩) rfl;have fE:=G0.ent.frozen 2;clear hr hbl;refine' qzg;replace G0:G w _ _ _ ⟨numL (s.data.toList.take 2),numL ((s.data.toList.drop 2).take 2),s.extract 4 8,⟨#[]⟩,⟨#[]⟩,0⟩ s 8:=G0.set (e':=⟨numL (s.data.toList.take 2),numL ((s.data.toList.drop 2).take 2),s.extract 4 8,⟨#[]⟩,⟨#[]⟩,0⟩) (i:=2) rfl;refine' qzab
 refine(rdtext s 8 4 rb 8 4 12 20 _ rfl rfl rfl (by rw[hs];rfl) G0.rd hm (by omega) (by omega) (by omega)).mono ?_
 rintro e V3 ⟨rfl,hr,hbl⟩;replace G0:=G0.call hr hbl;have cE:=G0.ent.cell 3 (.string ⟨#[]⟩) rfl;have fE:=G0.ent.frozen 3;clear hr hbl;refine' qzg;replace G0:G w _ _ _ ⟨numL (s.data.toList.take 2),numL ((s.data.toList.drop 2).take 2),s.extract 4 8,s.extract 8 12,⟨#[]⟩,0⟩ s 12:=G0.set (e':=⟨numL (s.data.toList.take 2),numL ((s.data.toList.drop 2).take 2),s.extract 4 8,s.extract 8 12,⟨#[]⟩,0⟩) (i:=3) rfl;refine' qzab
 refine(rdtext s 12 4 rb 12 4 16 20 _ rfl rfl rfl (by rw[hs];rfl) G0.rd hm (by omega) (by omega) (by omega)).mono ?_
 rintro e V4 ⟨rfl,hr,hbl⟩;replace G0:=G0.call hr hbl;have cE:=G0.ent.cell 4 (.string ⟨#[]⟩) rfl;have fE:=G0.ent.frozen 4;clear hr hbl;refine' qzg;replace G0:G w _ _ _ ⟨numL (s.data.toList.take 2),numL ((s.data.toList.drop 2).take 2),s.extract 4 8,s.extract 8 12,s.extract 12 16,0⟩ s 16:=G0.set (e':=⟨numL (s.data.toList.take 2),numL ((s.data.toList.drop 2).take 2),s.extract 4 8,s.extract 8 12,s.extract 12 16,0⟩) (i:=4) rfl;refine' qzab
 refine(rdnum s 16 4 rb 16 4 20 20 _ rfl rfl rfl (by rw[hs];rfl) G0.rd hm (by omega) (by omega) (by omega)).mono ?_
 rintro e V5 ⟨rfl,hr,hbl⟩;replace G0:=G0.call hr hbl;have cE:=G0.ent.cell 5 (.int .i64 0) rfl;have fE:=G0.ent.frozen 5;clear hr hbl;have G1:G w (V5.setCell ⟨w.heap.size+1,5,none⟩ (.int .i64 (numL ((s.data.toList.drop 16).take 4)))) _ _ (E.of s) s 20:=G0.set (e':=E.of s) (i:=5) rfl;clear G0
 go_wp2_with (first|(refine f0a (b:=w.heap.size+1) shE rfl _ rfl rfl G1.ent rfl ?_)|(refine a0a (b:=w.heap.size) shE rfl _ _ rfl rfl rfl G1.res rfl rfl (E.one (E.of s)) ?_))
 refine bodyPost_ret (v := .tuple #[.agg (E.of s).cells,.bool true]) (m0a (ty:=59) rfl _ _ w.heap.size _ rfl (loadVarK shE (G1.res.put _) rfl) _ rfl) rfl ⟨rfl,below_setRow G1.bel (Nat.le_refl _) _⟩
end Ent
namespace Ent
open Cur Oct Bk
def Wr (B b:Nat)(l:List UInt8)(bad:Bool)(w:World):Prop:=
  B≤b∧∃ v,Bk 156 w b #[v,.bool bad]∧w.ownsRow B 5 1 v l.length (cellsL l)
theorem neW:(156:TypeId)≠5:=by decide
theorem x0c (a b:List UInt8):cellsL (a++b)=cellsL a++cellsL b:=by simp[cellsL]
theorem o0e {w:World}{B b i:Nat}{v u:Value}{n:Nat}{xs:List Value}{cs:Array Value}(hown:w.ownsRow B 5 1 v n xs)(hb:Bk 156 w b cs):(w.setCell ⟨b,i,none⟩ u).ownsRow B 5 1 v n xs:=
  hown.kept (row:=some b) ⟨rfl,rfl,rfl,by simp[World.setCell],fun k _ hk=>Below.heap_setCell _ _ _ _ (fun e=>hk (by simp[e]))⟩ (Or.inr (Lib.ownBlock_ne hown hb neW))
theorem d1g (B b:Nat)(l:List UInt8)(bad:Bool)(s:ByteArray)(w:World)(h:Wr B b l bad w) :
    Calls Tryz.prog 273 #[.pointer (some ⟨b,0,none⟩),.string s,.bool false] w fun e w'=>e = .returned (.tuple #[])∧Wr B b l true w'∧Below B w w':=by
 obtain⟨hB,v,hb,hown⟩:=h;have c1:=hb.cell 1 (.bool bad) rfl;have f1:=hb.frozen 1;refine' qzcf;clear hb hown;refine' qz16;refine bodyPost_ret (results_none rfl _ _ _) rfl ?_;exact⟨rfl,⟨hB,v,HB.out.set rfl,o0e HO.out HB.out⟩,(Below.refl _ _).setCell (p:=⟨b,1,none⟩) hB _⟩
theorem u1a (B b:Nat)(l:List UInt8)(bad:Bool)(s:ByteArray)(w:World)(h:Wr B b l bad w)(hlen:l.length+s.size≤140737488355328)(hBw:B≤w.heap.size) :
    Calls Tryz.prog 273 #[.pointer (some ⟨b,0,none⟩),.string s,.bool true] w fun e w'=>e = .returned (.tuple #[])∧Wr B b (l++s.data.toList) bad w'∧Below B w w':=by
 refine' qz4l;obtain⟨hB,v,hb,hown⟩:=h;have hne:=Lib.ownBlock_ne hown hb neW;have hlt:=hb.lt;have c0:=hb.cell 0 v rfl;refine' qz4n;clear hb;go_in;go_wp2_with (at_builtin;refine Lib.wpList_append_own_string _ rfl _ _ 96 9 rfl B 5 i0 Tryz.underlying96 Tryz.underlying9 hi hz0 hz1 hz2 _ _ _ rfl hown s rfl ?c3 ?c4 ?c5 ?_)
 case c3=>unfold maxLen;omega
 case c4=>omega
 case c5=>exact hBw
 intro v' w2 hown' hgrow _
 have hb2:Bk 156 w2 b #[v,.bool bad]:=(hgrow.block b hlt (fun e=>hne e.symm)).trans HB.out
 have d0:=hb2.cell 0 v rfl;have f0:=hb2.frozen 0
 have h1v:v'.oneCell'=true:=by
  rcases hown'.2 with⟨rfl,_⟩|⟨g,cap,cur,rfl,_⟩<;>rfl
 have HB2:=Lib.hid hb2;clear hb2
 obtain⟨ao,n',cap,rfl⟩:∃ ao n' cap,v' = .slice ao n' cap:=by
  rcases hown'.2 with⟨hv,_⟩|⟨g,cap,cur,hv,_⟩
  · exact⟨_,_,_,hv⟩
  · exact⟨_,_,_,hv⟩
 refine' qzaj
 refine⟨rfl,⟨hB,_,HB2.out.set rfl,o0e ?_ HB2.out⟩,((Below.refl _ _).grown hgrow hBw (fun k hk=>(hown.lt k hk).1)).setCell (p:=⟨b,0,none⟩) hB _⟩
 rw[x0c,List.length_append];exact hown'
def layN (v:Int)(n:Nat):List UInt8:=if fitsB v n then be v.toNat n else []
def layT (s:ByteArray):List UInt8:=if s.size=4 then s.data.toList else []
theorem i0a (v:Int)(n:Nat):(layN v n).length≤n:=by unfold layN;split<;>simp[j0d]
theorem e0c (s:ByteArray):(layT s).length≤4:=by unfold layT;split<;>simp<;>omega
theorem Wr.under {B b:Nat}{l:List UInt8}{bad:Bool}{w w':World}(h:Wr B b l bad w)(hb:Below w.heap.size w w'):Wr B b l bad w':=by
 obtain⟨h1,v,h2,h3⟩:=h;refine⟨h1,v,h2.below hb,h3.1,?_⟩
 rcases h3.2 with h|⟨g,cap,cur,a,b,c,d⟩
 · exact .inl h
 · exact .inr ⟨g,cap,cur,a,b,(hb.block g (Array.getElem?_eq_some_iff.1 c).1).trans c,d⟩
theorem Wr.lt {B b:Nat}{l:List UInt8}{bad:Bool}{w:World}(h:Wr B b l bad w):b<w.heap.size:=by
 obtain⟨h1,v,h2,h3⟩:=h;exact h2.lt
theorem wnum (B b:Nat)(l:List UInt8)(bad:Bool)(v:Int)(n:Nat)(ni:Int)(hni:ni=n)(w:World)(h:Wr B b l bad w)(hlen:l.length≤1000)(h1:1≤n)(h7:n≤7) :
    Calls Tryz.prog 220 #[.pointer (some ⟨b,0,none⟩),.int .i64 v,.int .i64 ni] w fun e w'=>e = .returned (.tuple #[])∧Wr B b (l++layN v n) (bad || !fitsB v n) w'∧Below B w w':=by
 subst hni;have hlt:=h.lt;have hB:=h.1;by_cases hf:fitsB v n=true
 · obtain⟨_,_,hv0,hv1⟩:=(e0b v n).1 hf
   have hl:layN v n=be v.toNat n:=by unfold layN;rw[if_pos hf]
   rw[hl,hf,Bool.not_true,Bool.or_false];obtain⟨v,rfl⟩:=Int.eq_ofNat_of_zero_le hv0
   have hv:v<pw n:=by simpa using hv1
   clear hv0 hv1 hl hf;have hz:(be v n).length=n:=j0d v n;refine' qz16;refine(i0m v n w h1 h7 hv).mono ?_;refine' qz10;have h':=h.under hb1;refine' qzg
   refine(u1a B b l bad ⟨(be v n).toArray⟩ w1 h' (by show l.length+(be v n).toArray.size≤_;simp[hz];omega) (by have:=hb1.size;omega)).mono ?_
   rintro e w2 ⟨rfl,hw,hb2⟩;refine' qzaj
   exact⟨rfl,hw,(hb1.mono (by omega)).trans hb2⟩
 · have hf:fitsB v n=false:=by simpa using hf
   have hl:layN v n = []:=by unfold layN;rw[hf];rfl
   rw[hl,hf,Bool.not_false,Bool.or_true,List.append_nil];refine' qz16;refine(q0n v n w hf).mono ?_;refine' qz10;have h':=h.under hb1;refine' qzg;refine(d1g B b l bad _ w1 h').mono ?_;rintro e w2 ⟨rfl,hw,hb2⟩;refine' qzaj
   exact⟨rfl,hw,(hb1.mono (by omega)).trans hb2⟩
theorem wtext (B b:Nat)(l:List UInt8)(bad:Bool)(s:ByteArray)(w:World)(h:Wr B b l bad w)(hlen:l.length≤1000)(hs:s.size≤maxLen) :
    Calls Tryz.prog 221 #[.pointer (some ⟨b,0,none⟩),.string s,.int .i64 4] w fun e w'=>e = .returned (.tuple #[])∧Wr B b (l++layT s) (bad || !decide (s.size=4)) w'∧Below B w w':=by
 have hlt:=h.lt;have hB:=h.1;unfold maxLen at hs;by_cases h4:s.size=4
 · have hl:layT s=s.data.toList:=by unfold layT;rw[if_pos h4]
   rw[hl,decide_eq_true h4,Bool.not_true,Bool.or_false]
   have hx:l.length+s.size≤140737488355328:=by omega
   refine' qz16
   refine(u1a B b l bad s w h hx (by omega)).mono ?_
   rintro e w2 ⟨rfl,hw,hb2⟩;refine' qzaj;exact⟨rfl,hw,hb2⟩
 · have hl:layT s = []:=by unfold layT;rw[if_neg h4]
   rw[hl,decide_eq_false h4,Bool.not_false,Bool.or_true,List.append_nil]
   have hq:((s.size:Int)==4)=false:=by simp;omega
   clear h4;refine' qz16;refine(d1g B b l bad s w h).mono ?_;rintro e w2 ⟨rfl,hw,hb2⟩;refine' qzaj;exact⟨rfl,hw,hb2⟩
def outB (l:List UInt8)(bad:Bool):ByteArray:=if bad then⟨#[]⟩else⟨l.toArray⟩
theorem n0i {B:Nat}(w:World)(l:List UInt8){ao:Option Addr}{cap:Nat}(h:w.ownsRow B 5 1 (.slice ao l.length cap) l.length (cellsL l)) :
    (convert 96 9 (.slice ao l.length cap)).run Tryz.prog w = .ok (.string ⟨l.toArray⟩) w:=by
 refine' qzda
theorem wdone (B b:Nat)(l:List UInt8)(bad:Bool)(w:World)(h:Wr B b l bad w) :
    Calls Tryz.prog 222 #[.pointer (some ⟨b,0,none⟩)] w fun e w'=>e = .returned (.tuple #[.string (outB l bad),.bool (!bad)])∧w=w':=by
 obtain⟨hB,v,hb,hown⟩:=h;have c1:=hb.cell 1 (.bool bad) rfl;have c0:=hb.cell 0 v rfl;clear hb;cases bad
 · obtain⟨ao,cap,rfl⟩:∃ ao cap,v = .slice ao l.length cap:=by
    rcases hown.2 with⟨hv,h0⟩|⟨g,cap,cur,hv,_⟩
    · exact⟨_,_,by rw[hv,h0]⟩
    · exact⟨_,_,hv⟩
   have hc:=n0i w l hown;clear hown;refine' qz16;go_ret2;exact⟨rfl,rfl⟩
 · refine' qz16;go_ret2;exact⟨rfl,rfl⟩
def laidE (e:E):List UInt8:=layN e.fam 2++(layN e.tag 2++(layT e.addr++(layT e.mask++(layT e.next++layN e.met 4))))
def okE (e:E):Bool:=fitsB e.fam 2&&fitsB e.tag 2&&decide (e.addr.size=4)&&decide (e.mask.size=4)&&decide (e.next.size=4)&&fitsB e.met 4
def putE (e:E):ByteArray:=if okE e then⟨(laidE e).toArray⟩else⟨#[]⟩
structure OkE (e:E):Prop where
  (addr:e.addr.size≤maxLen) (mask:e.mask.size≤maxLen) (next:e.next.size≤maxLen)
structure U (w0 w:World)(b:Nat)(e:E)(l:List UInt8)(bad:Bool):Prop where
  ent:Bk 59 w w0.heap.size e.cells
  wr:Wr b b l bad w
  o:w0.heap.size<b
  bel:Below w0.heap.size w0 w
theorem U.call {w0 w w':World}{b:Nat}{e:E}{l l':List UInt8}{bad bad':Bool}(g:U w0 w b e l bad)(h:Wr b b l' bad' w')(hb:Below b w w'):U w0 w' b e l' bad':=
  ⟨g.ent.under hb g.o,h,g.o,g.bel.trans (hb.mono (Nat.le_of_lt g.o))⟩
theorem c0b (e:E)(w:World)(he:OkE e) :
    Calls Tryz.prog 161 #[.agg e.cells] w fun r w'=>r = .returned (.tuple #[.string (putE e),.bool (okE e)])∧Below w.heap.size w w':=by
 refine' qzb8
 have G0:U w ((w.alloc (.cells e.cells 59)).alloc (.cells #[.slice none 0 0,.bool false] 156)) (w.heap.size+1) e [] false:=by
  refine⟨(Bk.new _ _ _).old _,⟨Nat.le_refl _,.slice none 0 0,?_,⟨by simp[cellsL],.inl ⟨rfl,rfl⟩⟩⟩,by omega,((Below.refl w.heap.size w).alloc (Nat.le_refl _) _).alloc (by rw[b0a];omega) _⟩
  have:=Bk.new 156 (w.alloc (.cells e.cells 59)) #[.slice none 0 0,.bool false];rwa [b0a]at this
 generalize (w.alloc (.cells e.cells 59)).alloc _=W at *;have c:=G0.ent.cell 0 (.int .i64 e.fam) rfl;refine' qzg
 refine(wnum _ _ _ _ e.fam 2 2 rfl _ G0.wr (by(try simp only[List.length_append]);have:=i0a e.fam 2;have:=i0a e.tag 2;have:=e0c e.addr;have:=e0c e.mask;have:=e0c e.next;(try simp);try omega) (by omega) (by omega)).mono ?_
 rintro r V0 ⟨rfl,hw,hb⟩;replace G0:=G0.call hw hb;clear hw hb;have c:=G0.ent.cell 1 (.int .i64 e.tag) rfl;refine' qzg
 refine(wnum _ _ _ _ e.tag 2 2 rfl _ G0.wr (by(try simp only[List.length_append]);have:=i0a e.fam 2;have:=i0a e.tag 2;have:=e0c e.addr;have:=e0c e.mask;have:=e0c e.next;(try simp);try omega) (by omega) (by omega)).mono ?_
 rintro r V1 ⟨rfl,hw,hb⟩;replace G0:=G0.call hw hb;clear hw hb;have c:=G0.ent.cell 2 (.string e.addr) rfl;refine' qzg
 refine(wtext _ _ _ _ e.addr _ G0.wr (by(try simp only[List.length_append]);have:=i0a e.fam 2;have:=i0a e.tag 2;have:=e0c e.addr;have:=e0c e.mask;(try simp);try omega) he.addr).mono ?_
 rintro r V2 ⟨rfl,hw,hb⟩;replace G0:=G0.call hw hb;clear hw hb;have c:=G0.ent.cell 3 (.string e.mask) rfl;refine' qzg
 refine(wtext _ _ _ _ e.mask _ G0.wr (by(try simp only[List.length_append]);have:=i0a e.fam 2;have:=i0a e.tag 2;have:=e0c e.addr;have:=e0c e.mask;(try simp);try omega) he.mask).mono ?_
 rintro r V3 ⟨rfl,hw,hb⟩;replace G0:=G0.call hw hb;clear hw hb
 have c:=G0.ent.cell 4 (.string e.next) rfl
 refine' qzg
 refine(wtext _ _ _ _ e.next _ G0.wr (by(try simp only[List.length_append]);have:=i0a e.fam 2;have:=i0a e.tag 2;have:=e0c e.addr;have:=e0c e.mask;(try simp);try omega) he.next).mono ?_
 rintro r V4 ⟨rfl,hw,hb⟩;replace G0:=G0.call hw hb;clear hw hb;have c:=G0.ent.cell 5 (.int .i64 e.met) rfl;refine' qzg
 refine(wnum _ _ _ _ e.met 4 4 rfl _ G0.wr (by(try simp only[List.length_append]);have:=i0a e.fam 2;have:=i0a e.tag 2;have:=e0c e.addr;have:=e0c e.mask;have:=e0c e.next;(try simp);try omega) (by omega) (by omega)).mono ?_
 rintro r V5 ⟨rfl,hw,hb⟩;replace G0:=G0.call hw hb;clear hw hb;refine' qzg;refine(wdone _ _ _ _ _ G0.wr).mono ?_;rintro r V6 ⟨rfl,rfl⟩;refine' qzg;go_ret2;refine⟨r0z ?_ rfl,G0.bel⟩;unfold putE outB okE laidE;generalize fitsB e.fam 2=x1;generalize fitsB e.tag 2=x2;generalize decide (e.addr.size=4)=x3;generalize decide (e.mask.size=4)=x4
 generalize decide (e.next.size=4)=x5
 generalize fitsB e.met 4=x6
 cases x1<;>cases x2<;>cases x3<;>cases x4<;>cases x5<;>cases x6<;>rfl
end Ent
namespace Ent
open Cur Oct Bk
theorem n0a (s:ByteArray)(a b:Nat):(s.extract a b).data.toList=(s.data.toList.drop a).take (b - a):=by
 simp[ByteArray.data_extract,List.extract_eq_take_drop]
theorem sl_m (s:ByteArray)(i j:Int)(lo hi:Nat)(hi':i=lo)(hj:j=hi)(h1:lo≤hi)(h2:hi≤s.size)(W:World) :
    (Instr.slice 9 (.string s) (some (.int .i64 i)) (some (.int .i64 j)) none).run Tryz.prog W = .ok (.string (s.extract lo hi)) W:=by
 subst hi' hj;refine' qz5m
end Ent
namespace Ent
open Cur Oct Bk
theorem a0i (l:List UInt8):∀ n:Nat,l.foldl (fun n c=>n*256+c.toNat) n=n*256 ^ l.length+numL l:=by
 refine' qzdb
theorem f0i (c:UInt8)(l:List UInt8):numL (c::l)=c.toNat*256 ^ l.length+numL l:=by
 unfold numL;rw[List.foldl_cons,a0i,Nat.zero_mul,Nat.zero_add];rfl
theorem s0h (n:Nat):∀ k,numL (be n k)=n%pw k:=by
 refine' qz3s
theorem f0k:∀ {a b:List UInt8},a.length=b.length→numL a=numL b→a=b:=by
 intro a
 induction a with
 | nil=>intro b h _;cases b with
  | nil=>rfl
  | cons _ _=>simp at h
 | cons c a ih=>
  intro b h e
  cases b with
  | nil=>simp at h
  | cons d b=>
   have hl:a.length=b.length:=by simpa using h
   rw[f0i,f0i,hl]at e;have h1:=r0h a;have h2:=r0h b;rw[hl]at h1
   have hp:0<256 ^ b.length:=Nat.pow_pos (by decide)
   have hq:=congrArg (· / 256 ^ b.length) e;simp only[Nat.mul_comm _ (256 ^ b.length),Nat.mul_add_div hp,Nat.div_eq_of_lt h1,Nat.div_eq_of_lt h2,Nat.add_zero]at hq;have hc:c=d:=UInt8.toNat_inj.1 hq;subst hc
   rw[ih hl (by omega)]
theorem k0m (l:List UInt8)(k:Nat)(h:l.length=k):be (numL l) k=l:=by
 refine f0k (by rw[j0d,h]) ?_
 rw[s0h,Nat.mod_eq_of_lt];have:=r0h l;rw[h]at this;exact this
theorem b0e (l:List UInt8)(k:Nat)(h:l.length=k)(h1:1≤k)(h7:k≤7):fitsB (numL l) k=true∧layN (numL l) k=l:=by
 refine' qz60;unfold layN;rw[if_pos hf,Int.toNat_natCast,k0m l k h]
theorem r0d (v:Int)(k:Nat)(hf:fitsB v k=true):((numL (layN v k):Nat):Int)=v∧(layN v k).length=k:=by
 obtain⟨_,_,h0,h1⟩:=(e0b v k).1 hf;unfold layN;rw[if_pos hf,s0h,j0d];obtain⟨n,rfl⟩:=Int.eq_ofNat_of_zero_le h0
 have:n<pw k:=by simpa using h1
 rw[Int.toNat_natCast,Nat.mod_eq_of_lt this];exact⟨rfl,rfl⟩
theorem u0t:∀ l:List UInt8,l.length=20→l.take 2++((l.drop 2).take 2++((l.drop 4).take 4++((l.drop 8).take 4++((l.drop 12).take 4++(l.drop 16).take 4))))=l:=by
 intro l h
 match l,h with
 | [a0,a1,a2,a3,a4,a5,a6,a7,a8,a9,a10,a11,a12,a13,a14,a15,a16,a17,a18,a19],_=>rfl
theorem x0q (x1 x2 x3 x4 x5 x6:List UInt8)(h1:x1.length=2)(h2:x2.length=2)(h3:x3.length=4)(h4:x4.length=4)(h5:x5.length=4)(h6:x6.length=4) :
    (x1++(x2++(x3++(x4++(x5++x6))))).length=20∧(x1++(x2++(x3++(x4++(x5++x6))))).take 2=x1∧((x1++(x2++(x3++(x4++(x5++x6))))).drop 2).take 2=x2∧
    ((x1++(x2++(x3++(x4++(x5++x6))))).drop 4).take 4=x3∧((x1++(x2++(x3++(x4++(x5++x6))))).drop 8).take 4=x4∧((x1++(x2++(x3++(x4++(x5++x6))))).drop 12).take 4=x5∧((x1++(x2++(x3++(x4++(x5++x6))))).drop 16).take 4=x6:=by
 match x1,h1,x2,h2,x3,h3,x4,h4,x5,h5,x6,h6 with
 | [a0,a1],_,[b0,b1],_,[c0,c1,c2,c3],_,[d0,d1,d2,d3],_,[e0,e1,e2,e3],_,[f0,f1,f2,f3],_=>exact⟨rfl,rfl,rfl,rfl,rfl,rfl,rfl⟩
theorem k0a {a b:ByteArray}(h:a.data.toList=b.data.toList):a=b:=ByteArray.ext (Array.toList_inj.1 h)
theorem z0t (s:ByteArray)(h:s.size=20):okE (E.of s)=true∧putE (E.of s)=s:=by
 have hl:s.data.toList.length=20:=by simpa using h
 obtain⟨f1,l1⟩:=b0e (s.data.toList.take 2) 2 (by simp;omega) (by omega) (by omega)
 obtain⟨f2,l2⟩:=b0e ((s.data.toList.drop 2).take 2) 2 (by simp;omega) (by omega) (by omega)
 obtain⟨f3,l3⟩:=b0e ((s.data.toList.drop 16).take 4) 4 (by simp;omega) (by omega) (by omega)
 have z3:(s.extract 4 8).size=4:=by simp;omega
 have z4:(s.extract 8 12).size=4:=by simp;omega
 have z5:(s.extract 12 16).size=4:=by simp;omega
 have hk:okE (E.of s)=true:=by
  unfold okE E.of;simp only[z3,z4,z5,decide_true,Bool.and_true,Bool.and_eq_true];exact⟨⟨f1,f2⟩,f3⟩
 refine⟨hk,?_⟩;unfold putE;rw[if_pos hk];refine k0a ?_
 show laidE (E.of s)=_
 unfold laidE E.of layT;simp only[l1,l2,l3,z3,z4,z5,if_true,n0a];exact u0t _ hl
theorem k0c (e:E)(h:okE e=true):(putE e).size=20∧E.of (putE e)=e:=by
 have hp:putE e=⟨(laidE e).toArray⟩:=by unfold putE;rw[if_pos h]
 unfold okE at h;refine' qzcs;obtain⟨⟨⟨⟨⟨f1,f2⟩,z3⟩,z4⟩,z5⟩,f6⟩:=h;obtain⟨n1,k1⟩:=r0d e.fam 2 f1;obtain⟨n2,k2⟩:=r0d e.tag 2 f2;obtain⟨n6,k6⟩:=r0d e.met 4 f6
 have t3:layT e.addr=e.addr.data.toList:=by unfold layT;rw[if_pos z3]
 have t4:layT e.mask=e.mask.data.toList:=by unfold layT;rw[if_pos z4]
 have t5:layT e.next=e.next.data.toList:=by unfold layT;rw[if_pos z5]
 obtain⟨q0,q1,q2,q3,q4,q5,q6⟩:=x0q (layN e.fam 2) (layN e.tag 2) (layT e.addr) (layT e.mask) (layT e.next) (layN e.met 4) k1 k2 (by rw[t3];simpa using z3) (by rw[t4];simpa using z4) (by rw[t5];simpa using z5) k6
 have hd:(putE e).data.toList=laidE e:=by rw[hp]
 refine⟨?_,?_⟩
 · rw[hp];show(laidE e).toArray.size=20;rw[List.size_toArray];exact q0
 · unfold E.of;rw[hd]
   have x3:(putE e).extract 4 8=e.addr:=k0a (by rw[n0a,hd,←t3];exact q3)
   have x4:(putE e).extract 8 12=e.mask:=k0a (by rw[n0a,hd,←t4];exact q4)
   have x5:(putE e).extract 12 16=e.next:=k0a (by rw[n0a,hd,←t5];exact q5)
   rw[x3,x4,x5];unfold laidE;rw[q1,q2,q6,n1,n2,n6]
end Ent
end Go.Proofs.YtllhobicfclheaaGreatDoor
