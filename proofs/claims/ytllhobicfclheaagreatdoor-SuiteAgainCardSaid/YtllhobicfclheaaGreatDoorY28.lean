/-
  A part of a proof. No conditions.
-/
import Derived.Test.YtllhobicfclheaaGreatDoorY16
import Derived.Test.YtllhobicfclheaaGreatDoorY27
namespace Go.Proofs.YtllhobicfclheaaGreatDoor
open Go.ChangeShapes Go.WideShapes Go.ChangeAt Go.RowKit
set_option linter.unusedVariables false
set_option maxRecDepth 100000
set_option maxHeartbeats 51200000
namespace Tl
open F1
open Bk (Bk Sh)
open Hy (H.one)
def TRow (w:World)(a:Option Addr)(l:List T):Prop:=
  ∀ i (h:i<l.length),∃ p,a=some p∧p.block<w.heap.size∧w.cell? (p.add (i*3))=some (.int .i64 l[i].2.2)∧w.cell? ((p.add (i*3)).add 1)=some (.int .i64 l[i].1)∧w.cell? ((p.add (i*3)).add 2)=some (.string l[i].2.1)
theorem b0b (p:Addr)(n:Nat):(p.add n).block=p.block:=by unfold Addr.add;split<;>rfl
theorem TRow.below {w w':World}{a:Option Addr}{l:List T}(h:TRow w a l)(hb:Below w.heap.size w w'):TRow w' a l:=by
 intro i hi;obtain⟨p,h1,h2,h3,h4,h5⟩:=h i hi;refine⟨p,h1,Nat.lt_of_lt_of_le h2 hb.size,?_,?_,?_⟩
 · rw[hb.cell (by rw[b0b];exact h2)];exact h3
 · rw[hb.cell (by rw[b0b,b0b];exact h2)];exact h4
 · rw[hb.cell (by rw[b0b,b0b];exact h2)];exact h5
def cellsT (x:T):Array Value:=#[.int .i64 x.2.2,.int .i64 x.1,.string x.2.1]
theorem oneT (x:T):((cellsT x).all fun x=>x.oneCell')=true:=by simp[cellsT,Value.oneCell']
theorem shT:Sh Tryz.prog 110 3:=⟨_,Tryz.underlying110,by kernel_rfl⟩
theorem w0i (x:T)(w:World):(Instr.buildSlice 67 1 #[(0,.agg (cellsT x))]).run Tryz.prog w = .ok (.slice (some ⟨w.heap.size,0,none⟩) 1 1) (w.alloc (.cells (cellsT x) 110)):=by
 kernel_rfl
theorem c0h {o:Oper}{ρ:Operand→Value}{x:Operand}{m:T}{w:World}(ho:o.op = .buildSlice 67 1 #[(0,x)])(hx:ρ x = .agg (cellsT m)) :
    (execOp ρ o).run Tryz.prog w = .ok (.value (.slice (some ⟨w.heap.size,0,none⟩) 1 1)) (w.alloc (.cells (cellsT m) 110)):=by
 have e:((#[(0,x)]:Array (Nat×Operand)).map fun(i,x)=>(i,ρ x)) = #[(0,.agg (cellsT m))]:=by simp[hx]
 refine' qz74
theorem j0c {ops:Array Oper}{rest:List Oper}{o:Oper}{a:Act}{w:World}{Q:Exit→Act→World→Prop}(hgd:o.guard=none)(x:Operand)(ho:o.op = .buildSlice 67 1 #[(0,x)])
    {m:T} (hx:a.eval x = .agg (cellsT m)) (h:wpList Tryz.prog ops Q rest (a.put o.dst (.slice (some ⟨w.heap.size,0,none⟩) 1 1)) (w.alloc (.cells (cellsT m) 110))):wpList Tryz.prog ops Q (o::rest) a w:=
  wpList_plain hgd fun K hK=>by
    unfold Oper.wp
    rw[c0h ho hx]
    exact hK _ _ h
theorem p0b (g o j:Nat):(⟨g,o,none⟩:Addr).add j=⟨g,o+j,none⟩:=by
 refine' qz9j
def rowT (l:List T):List Value:=l.flatMap fun x=>(cellsT x).toList
theorem l1d (l:List T)(m:T):rowT (l ++ [m])=rowT l++(cellsT m).toList:=by simp[rowT]
theorem s1a:∀ (l:List T) (i j:Nat) (h:i<l.length),j<3→(rowT l)[i*3+j]?=((cellsT l[i]).toList)[j]?
  | [],i,j,h,_=>absurd h (by simp)
  | m::l,0,j,h,hj=>by
    have:rowT (m::l)=(cellsT m).toList++rowT l:=by simp[rowT]
    rw[this,Nat.zero_mul,Nat.zero_add,List.getElem?_append_left (by show j<(cellsT m).toList.length;exact hj)]
    rfl
  | m::l,i+1,j,h,hj=>by
    have e:rowT (m::l)=(cellsT m).toList++rowT l:=by simp[rowT]
    have hl:(cellsT m).toList.length=3:=rfl
    rw[e,List.getElem?_append_right (by rw[hl];omega),hl,show(i+1)*3+j - 3=i*3+j by omega,s1a l i j (by simpa using h) hj]
    rfl
theorem infoT:∃ i,Tryz.prog.info? 110=some i∧i.zero=some (.agg #[.int .i64 0,.int .i64 0,.string ByteArray.empty])∧i.size=3∧i.bytes≤4096:=by
 have h:(Tryz.prog.info? 110).map (fun i=>(i.zero,i.size,decide (i.bytes≤4096)))=some (some (.agg #[.int .i64 0,.int .i64 0,.string ByteArray.empty]),3,true):=by kernel_rfl
 refine' qz65;exact⟨i,hi,hz⟩
def Lst (B:Nat)(w:World)(v:Value)(l:List T):Prop:=w.ownsRow B 110 3 v l.length (rowT l)
theorem Lst.nil (B:Nat)(w:World):Lst B w (.slice none 0 0) []:=World.ownsRow_nil w B _ 3
theorem Lst.below {B:Nat}{w w':World}{v:Value}{l:List T}(h:Lst B w v l)(hb:Below w.heap.size w w'):Lst B w' v l:=by
 refine' qz1h
theorem Lst.slice {B:Nat}{w:World}{v:Value}{l:List T}(h:Lst B w v l):∃ a c,v = .slice a l.length c:=by
 refine' qzd4
theorem Lst.row {B:Nat}{w:World}{a:Option Addr}{c:Nat}{l:List T}(h:Lst B w (.slice a l.length c) l):TRow w a l:=by
 intro i hi
 rcases h.2 with⟨_,h0⟩|⟨g,cap,cur,hv,hb,hg,_⟩
 · omega
 · simp at hv;obtain⟨rfl,rfl⟩:=hv
   have hat:∀ j v,j<3→((cellsT l[i]).toList)[j]?=some v→w.cell? (((⟨g,0,none⟩:Addr).add (i*3)).add j)=some v:=fun j v hj hv=>by
    have:=World.ownsRow.cells h (g:=g) rfl (i*3+j) v (by rw[s1a l i j hi hj];exact hv)
    rw[p0b]at this;rw[p0b,p0b,Nat.add_assoc];exact this
   exact⟨⟨g,0,none⟩,rfl,(Array.getElem?_eq_some_iff.1 hg).1,hat 0 _ (by decide) rfl,hat 1 _ (by decide) rfl,hat 2 _ (by decide) rfl⟩
theorem z0a (m:T)(w:World):∀ j u,((cellsT m).toList)[j]?=some u→(w.alloc (.cells (cellsT m) 110)).cell? ((⟨w.heap.size,0,none⟩:Addr).add j)=some u:=by
 intro j u hu
 have:=(Bk.Bk.new 110 w (cellsT m)).cell j u (by simpa using hu)
 rw[p0b,Nat.zero_add];exact this
theorem a0m {o:Oper}{a:Act}{w:World}{Q:Exit→Act→World→Prop}{K:Act→World→Prop}(s x:Operand)
    (ho:o.op = .call { callee := .builtin .append,args:=#[s,x],argTypes:=#[67,67]}) (B:Nat) (v:Value) (l:List T) (m:T) (g c:Nat)
    (hs:a.eval s=v) (hown:Lst B w v l) (hx:a.eval x = .slice (some ⟨g,0,none⟩) 1 c) (hm:∀ j u,((cellsT m).toList)[j]?=some u→w.cell? ((⟨g,0,none⟩:Addr).add j)=some u)
    (hl:l.length≤100000) (hB:B≤w.heap.size)
    (h:∀ v' w',Lst B w' v' (l ++ [m])→w.grownBy w' v.ownBlock→Below B w w'→K (a.put o.dst v') w'):Oper.wp Tryz.prog o a w K Q:=by
 obtain⟨i0,hi,hz,hsz,hby⟩:=infoT
 refine wp_append_own w s x 67 ho B 110 i0 (.agg #[.int .i64 0,.int .i64 0,.string ByteArray.empty]) 3 i0.bytes Tryz.underlying67 hi hz hsz rfl rfl (by decide) v l.length (rowT l) hs hown ⟨g,0,none⟩ 1 c (cellsT m).toList hx rfl hm ?_ (by unfold maxLen;omega) ?_ hB ?_
 · intro u hu;have:=oneT m;refine' qzb1
 · have:(l.length+1)*i0.bytes≤100001*4096:=Nat.mul_le_mul (by omega) hby
   omega
 · refine' qz5c;unfold Lst;rw[l1d,List.length_append];exact h2
theorem x0f {w:World}{B:Nat}{e T:TypeId}{size:Nat}{v:Value}{n:Nat}{xs:List Value}{b:Nat}{cs:Array Value}(hown:w.ownsRow B e size v n xs)(hb:Bk T w b cs)(hTe:T≠e):v.ownBlock≠some b:=by
 rcases hown.2 with⟨rfl,_⟩|⟨g,cap,cur,rfl,_,hg,_⟩
 · simp[Value.ownBlock]
 · intro h;simp only[Value.ownBlock,Option.some.injEq]at h;subst h;have:=hb.symm.trans hg;simp only[Option.some.injEq,Obj.cells.injEq]at this;exact hTe this.2.1
theorem Lst.keeps {B:Nat}{w w':World}{v:Value}{l:List T}{t:TypeId}{b:Nat}{cs:Array Value}(hl:Lst B w v l)(hg:w.grownBy w' v.ownBlock)(hb:Bk t w b cs)(ht:t≠110):Bk t w' b cs:=
  (hg.block _ hb.lt (fun e=>x0f hl hb ht e.symm)).trans hb
theorem Lst.off_row {B:Nat}{w:World}{v:Value}{l:List T}{t:TypeId}{b:Nat}{cs:Array Value}(hl:Lst B w v l)(hb:Bk t w b cs)(ht:t≠110)(cs':Array Value):Lst B (w.setRow b cs') v l:=
  World.ownsRow.kept (row:=some b) hl ⟨rfl,rfl,rfl,by simp,fun k _ hk=>setRow_other w b k cs' (fun e=>hk (by simp[e]))⟩ (Or.inr (x0f hl hb ht))
theorem f0d {ops:Array Oper}{rest:List Oper}{o:Oper}{a:Act}{w:World}{Q:Exit→Act→World→Prop}(hgd:o.guard=none)(s x:Operand)
    (ho:o.op = .call { callee := .builtin .append,args:=#[s,x],argTypes:=#[67,67]}) (B:Nat) (v:Value) (l:List T) (m:T) (g c:Nat)
    (hs:a.eval s=v) (hown:Lst B w v l) (hx:a.eval x = .slice (some ⟨g,0,none⟩) 1 c) (hm:∀ j u,((cellsT m).toList)[j]?=some u→w.cell? ((⟨g,0,none⟩:Addr).add j)=some u)
    (hl:l.length≤100000) (hB:B≤w.heap.size)
    (h:∀ v' w',Lst B w' v' (l ++ [m])→w.grownBy w' v.ownBlock→Below B w w'→wpList Tryz.prog ops Q rest (a.put o.dst v') w'):wpList Tryz.prog ops Q (o::rest) a w:=
  wpList_plain hgd fun K hK=>a0m s x ho B v l m g c hs hown hx hm hl hB fun v' w' h1 h2 h3=>hK _ _ (h v' w' h1 h2 h3)
section
variable {ops:Array Oper} {Q:Exit→Act→World→Prop} {md:Region.Mode} {S:World→Prop}
end
theorem add_one (p:Addr):p.add 1=⟨p.block,p.off+1,none⟩:=rfl
theorem y1b (p:Addr):p.add 2=⟨p.block,p.off+2,none⟩:=rfl
theorem below_drewN {w W:World}(h:Below w.heap.size w W):∀ n,Below w.heap.size w (W.drewN n)
  | 0=>h
  | n+1=>(below_drewN h n).drew
theorem indexT (p:Addr)(n c i:Nat)(h:i<n)(W:World):(Instr.indexAt 67 (.slice (some p) n c) (.int .i64 (i:Int))).run Tryz.prog W = .ok (.pointer (some (p.add (i*3)))) W:=by
 have he:Tryz.prog.elem 67=110:=by simp[Program.elem,Tryz.underlying67]
 have hz:(sizeOf 110).run Tryz.prog W = .ok 3 W:=by go_simp
 rw[run_indexAt_slice W 67 p n c .i64 (i:Int) (by rw[he];exact Tryz.underlying67),if_pos (by omega),he,hz]
 rfl
end Tl
namespace Open
open Go.Deep Ms Box Few All
section
variable {H:Type} {enc:TypeId×Value→H} {W:World}
theorem d0h {t:TypeId}{fds:Array Field}(ht:Tryz.prog.underlying t=some (.struct fds))(hone:oneCellFields Tryz.prog fds=true){fuel:Nat}{cs:List Value}{x:DataW H×List MemPlace}
    (h:DataW.trod enc Tryz.prog W 0 (fun _=>true) true fuel t cs=some x) :
    cs.length=Tryz.prog.cellsOf t∧∃ n,∀ (j:Nat) (f:Field),fds[j]?=some f→∃ y,DataW.trod enc Tryz.prog W 0 (fun _=>true) true n f.type ((cs.drop j).take 1)=some y:=by
 obtain⟨xs,n,_,_,hlen,hxl,hf⟩:=DataW.trod_struct ht h
 refine⟨hlen,n,fun j f hj=>?_⟩
 have h1:=hf j f hj;rw[(hone_of hone j f hj).1,(hone_of hone j f hj).2]at h1
 have hjl:j<xs.length:=by rw[hxl];exact(Array.getElem?_eq_some_iff.1 hj).1
 exact⟨xs[j],h1.trans (List.getElem?_eq_getElem hjl)⟩
theorem els {α:Type}{n:Nat}{R:Nat→α→Prop}(h:∀ i,i<n→∃ x,R i x):∃ l:List α,l.length=n∧∀ i (hi:i<l.length),R i l[i]:=by
 induction n with
 | zero=>exact⟨[],rfl,fun i hi=>absurd hi (by simp)⟩
 | succ n ih=>
  obtain⟨l,hl,hr⟩:=ih fun i hi=>h i (by omega)
  obtain⟨x,hx⟩:=h n (by omega)
  refine⟨l ++ [x],by simp[hl],fun i hi=>?_⟩
  by_cases hin:i<l.length
  · rw[List.getElem_append_left hin];exact hr i hin
  · obtain rfl:i=l.length:=by simp at hi;omega
    rw[List.getElem_append_right (Nat.le_refl _)];simp only[Nat.sub_self,List.getElem_cons_zero];rw[hl];exact hx
theorem s0z {fuel:Nat}{cs:List Value}{x:DataW H×List MemPlace}(h:DataW.trod enc Tryz.prog W 0 (fun _=>true) true fuel 26 cs=some x) :
    ∃ (a:Option Addr) (l:List El) (c:Nat),cs = [.slice a l.length c]∧DRow W a l∧l.length≤9223372036854775807:=by
 have hz:Tryz.prog.cellsOf 48=2:=by kernel_rfl
 rcases open_slice Tryz.underlying26 h with h0|⟨a,len,cap,m,n,D,Pl,hcs,_,hl,hm,hmm,_,hi⟩
 · exact⟨none,[],0,h0.1,DRow.nil _ _,by simp⟩
 · obtain⟨l,hll,hr⟩:=els (n:=len) (R:=fun i (x:El)=>W.cell? (a.add (i*2))=some (.string x.1)∧W.cell? ((a.add (i*2)).add 1)=some (.int .i64 x.2)) (fun i hin=>by
    obtain⟨ds,hc,ht⟩:=hi i (by rw[hmm];split<;>omega)
    rw[hz]at hc
    obtain⟨hlen,k,hf⟩:=d0h Tryz.underlying48 (by kernel_rfl) ht
    rw[hz]at hlen;obtain⟨_,_,hat⟩:=World.cells?_some hc
    have e0:=hat 0 (by decide)
    have e1:=hat 1 (by decide)
    match ds,hlen with
    | [d0,d1],_=>
     obtain⟨y0,g0⟩:=hf 0 _ rfl;obtain⟨y1,g1⟩:=hf 1 _ rfl
     obtain⟨u0,q0,_,_⟩:=DataW.trod_string Tryz.underlying9 (show DataW.trod enc Tryz.prog W 0 (fun _=>true) true k 9 [d0]=some y0 from g0)
     obtain⟨u1,q1,_,_⟩:=DataW.trod_int Tryz.underlying3 (show DataW.trod enc Tryz.prog W 0 (fun _=>true) true k 3 [d1]=some y1 from g1)
     obtain rfl:=(List.cons.inj q0).1;obtain rfl:=(List.cons.inj q1).1
     exact⟨(u0,u1),e0,e1⟩)
   refine⟨some a,l,cap,by rw[hll];exact hcs,fun i hin=>⟨a,rfl,?_,hr i hin⟩,by unfold maxLen at hm;omega⟩
   have:=block_lt_of_cell (hr i hin).1;rwa [b0b]at this
theorem k1d {fuel:Nat}{cs:List Value}{x:DataW H×List MemPlace}(h:DataW.trod enc Tryz.prog W 0 (fun _=>true) true fuel 27 cs=some x) :
    ∃ (a:Option Addr) (l:List El) (c:Nat),cs = [.slice a l.length c]∧SRow W a l∧l.length≤9223372036854775807:=by
 have hz:Tryz.prog.cellsOf 50=2:=by kernel_rfl
 rcases open_slice Tryz.underlying27 h with h0|⟨a,len,cap,m,n,D,Pl,hcs,_,hl,hm,hmm,_,hi⟩
 · exact⟨none,[],0,h0.1,SRow.nil _ _,by simp⟩
 · obtain⟨l,hll,hr⟩:=els (n:=len) (R:=fun i (x:El)=>W.cell? (a.add (i*2))=some (.int .i64 x.2)∧W.cell? ((a.add (i*2)).add 1)=some (.string x.1)) (fun i hin=>by
    obtain⟨ds,hc,ht⟩:=hi i (by rw[hmm];split<;>omega)
    rw[hz]at hc
    obtain⟨hlen,k,hf⟩:=d0h Tryz.underlying50 (by kernel_rfl) ht
    rw[hz]at hlen;obtain⟨_,_,hat⟩:=World.cells?_some hc
    have e0:=hat 0 (by decide)
    have e1:=hat 1 (by decide)
    match ds,hlen with
    | [d0,d1],_=>
     obtain⟨y0,g0⟩:=hf 0 _ rfl;obtain⟨y1,g1⟩:=hf 1 _ rfl
     obtain⟨u0,q0,_,_⟩:=DataW.trod_int Tryz.underlying3 (show DataW.trod enc Tryz.prog W 0 (fun _=>true) true k 3 [d0]=some y0 from g0)
     obtain⟨u1,q1,_,_⟩:=DataW.trod_string Tryz.underlying9 (show DataW.trod enc Tryz.prog W 0 (fun _=>true) true k 9 [d1]=some y1 from g1)
     obtain rfl:=(List.cons.inj q0).1;obtain rfl:=(List.cons.inj q1).1
     exact⟨(u1,u0),e0,e1⟩)
   refine⟨some a,l,cap,by rw[hll];exact hcs,fun i hin=>⟨a,rfl,?_,hr i hin⟩,by unfold maxLen at hm;omega⟩
   have:=block_lt_of_cell (hr i hin).1;rwa [b0b]at this
theorem cellsM:Tryz.prog.cellsOf 29=25:=by kernel_rfl
theorem n0y {fuel:Nat}{cs:List Value}{x:DataW H×List MemPlace}(h:DataW.trod enc Tryz.prog W 0 (fun _=>true) true fuel 29 cs=some x) :
    ∃ m:M,cs=m.cells.toList∧DRow W m.la m.ll∧SRow W m.sa m.sl:=by
 obtain⟨hlen,n,go⟩:=d0h Tryz.underlying29 (by kernel_rfl) h
 rw[cellsM]at hlen;clear h
 match cs,hlen with
 | [c0,c1,c2,c3,c4,c5,c6,c7,c8,c9,c10,c11,c12,c13,c14,c15,c16,c17,c18,c19,c20,c21,c22,c23,c24],_=>
  obtain⟨y0,h0⟩:=go 0 _ rfl
  obtain⟨k0,e0,_,_⟩:=DataW.trod_int Tryz.underlying3 (show DataW.trod enc Tryz.prog W 0 (fun _=>true) true n 3 [c0]=some y0 from h0)
  obtain rfl:=(List.cons.inj e0).1;clear e0;obtain⟨y1,h1⟩:=go 1 _ rfl
  obtain⟨k1,e1,_,_⟩:=DataW.trod_int Tryz.underlying3 (show DataW.trod enc Tryz.prog W 0 (fun _=>true) true n 3 [c1]=some y1 from h1)
  obtain rfl:=(List.cons.inj e1).1;clear e1;obtain⟨y2,h2⟩:=go 2 _ rfl
  obtain⟨k2,e2,_,_⟩:=DataW.trod_int Tryz.underlying3 (show DataW.trod enc Tryz.prog W 0 (fun _=>true) true n 3 [c2]=some y2 from h2)
  obtain rfl:=(List.cons.inj e2).1;clear e2;obtain⟨y3,h3⟩:=go 3 _ rfl
  obtain⟨k3,e3,_,_⟩:=DataW.trod_string Tryz.underlying9 (show DataW.trod enc Tryz.prog W 0 (fun _=>true) true n 9 [c3]=some y3 from h3)
  obtain rfl:=(List.cons.inj e3).1;clear e3;obtain⟨y4,h4⟩:=go 4 _ rfl
  obtain⟨k4,e4,_,_⟩:=DataW.trod_int Tryz.underlying3 (show DataW.trod enc Tryz.prog W 0 (fun _=>true) true n 3 [c4]=some y4 from h4)
  obtain rfl:=(List.cons.inj e4).1;clear e4;obtain⟨y5,h5⟩:=go 5 _ rfl
  obtain⟨k5,e5,_,_⟩:=DataW.trod_int Tryz.underlying3 (show DataW.trod enc Tryz.prog W 0 (fun _=>true) true n 3 [c5]=some y5 from h5)
  obtain rfl:=(List.cons.inj e5).1;clear e5;obtain⟨y6,h6⟩:=go 6 _ rfl
  obtain⟨k6,e6,_,_⟩:=DataW.trod_string Tryz.underlying9 (show DataW.trod enc Tryz.prog W 0 (fun _=>true) true n 9 [c6]=some y6 from h6)
  obtain rfl:=(List.cons.inj e6).1;clear e6;obtain⟨y7,h7⟩:=go 7 _ rfl
  obtain⟨k7,e7,_,_⟩:=DataW.trod_int Tryz.underlying3 (show DataW.trod enc Tryz.prog W 0 (fun _=>true) true n 3 [c7]=some y7 from h7)
  obtain rfl:=(List.cons.inj e7).1;clear e7;obtain⟨y8,h8⟩:=go 8 _ rfl
  obtain⟨k8,e8,_,_⟩:=DataW.trod_int Tryz.underlying3 (show DataW.trod enc Tryz.prog W 0 (fun _=>true) true n 3 [c8]=some y8 from h8)
  obtain rfl:=(List.cons.inj e8).1;clear e8;obtain⟨y9,h9⟩:=go 9 _ rfl
  obtain⟨k9,e9,_,_⟩:=DataW.trod_string Tryz.underlying9 (show DataW.trod enc Tryz.prog W 0 (fun _=>true) true n 9 [c9]=some y9 from h9)
  obtain rfl:=(List.cons.inj e9).1;clear e9;obtain⟨y10,h10⟩:=go 10 _ rfl
  obtain⟨k10,e10,_,_⟩:=DataW.trod_int Tryz.underlying3 (show DataW.trod enc Tryz.prog W 0 (fun _=>true) true n 3 [c10]=some y10 from h10)
  obtain rfl:=(List.cons.inj e10).1;clear e10;obtain⟨y11,h11⟩:=go 11 _ rfl
  obtain⟨k11,e11,_,_⟩:=DataW.trod_string Tryz.underlying9 (show DataW.trod enc Tryz.prog W 0 (fun _=>true) true n 9 [c11]=some y11 from h11)
  obtain rfl:=(List.cons.inj e11).1;clear e11;obtain⟨y12,h12⟩:=go 12 _ rfl
  obtain⟨k12,e12,_,_⟩:=DataW.trod_int Tryz.underlying3 (show DataW.trod enc Tryz.prog W 0 (fun _=>true) true n 3 [c12]=some y12 from h12)
  obtain rfl:=(List.cons.inj e12).1;clear e12;obtain⟨y13,h13⟩:=go 13 _ rfl
  obtain⟨k13,e13,_,_⟩:=DataW.trod_int Tryz.underlying3 (show DataW.trod enc Tryz.prog W 0 (fun _=>true) true n 3 [c13]=some y13 from h13)
  obtain rfl:=(List.cons.inj e13).1;clear e13;obtain⟨y14,h14⟩:=go 14 _ rfl
  obtain⟨k14,e14,_,_⟩:=DataW.trod_int Tryz.underlying3 (show DataW.trod enc Tryz.prog W 0 (fun _=>true) true n 3 [c14]=some y14 from h14)
  obtain rfl:=(List.cons.inj e14).1;clear e14;obtain⟨y15,h15⟩:=go 15 _ rfl
  obtain⟨k15,e15,_,_⟩:=DataW.trod_int Tryz.underlying3 (show DataW.trod enc Tryz.prog W 0 (fun _=>true) true n 3 [c15]=some y15 from h15)
  obtain rfl:=(List.cons.inj e15).1;clear e15;obtain⟨y16,h16⟩:=go 16 _ rfl
  obtain⟨k16,e16,_,_⟩:=DataW.trod_int Tryz.underlying3 (show DataW.trod enc Tryz.prog W 0 (fun _=>true) true n 3 [c16]=some y16 from h16)
  obtain rfl:=(List.cons.inj e16).1;clear e16;obtain⟨y17,h17⟩:=go 17 _ rfl
  obtain⟨k17,e17,_,_⟩:=DataW.trod_int Tryz.underlying3 (show DataW.trod enc Tryz.prog W 0 (fun _=>true) true n 3 [c17]=some y17 from h17)
  obtain rfl:=(List.cons.inj e17).1;clear e17;obtain⟨y18,h18⟩:=go 18 _ rfl
  obtain⟨k18,e18,_,_⟩:=DataW.trod_int Tryz.underlying3 (show DataW.trod enc Tryz.prog W 0 (fun _=>true) true n 3 [c18]=some y18 from h18)
  obtain rfl:=(List.cons.inj e18).1;clear e18;obtain⟨y19,h19⟩:=go 19 _ rfl
  obtain⟨k19,e19,_,_⟩:=DataW.trod_string Tryz.underlying9 (show DataW.trod enc Tryz.prog W 0 (fun _=>true) true n 9 [c19]=some y19 from h19)
  obtain rfl:=(List.cons.inj e19).1;clear e19;obtain⟨y20,h20⟩:=go 20 _ rfl
  obtain⟨k20,e20,_,_⟩:=DataW.trod_string Tryz.underlying9 (show DataW.trod enc Tryz.prog W 0 (fun _=>true) true n 9 [c20]=some y20 from h20)
  obtain rfl:=(List.cons.inj e20).1;clear e20;obtain⟨y21,h21⟩:=go 21 _ rfl
  obtain⟨a21,l21,n21,e21,r21,_⟩:=s0z (show DataW.trod enc Tryz.prog W 0 (fun _=>true) true n 26 [c21]=some y21 from h21)
  obtain rfl:=(List.cons.inj e21).1;clear e21;obtain⟨y22,h22⟩:=go 22 _ rfl
  obtain⟨k22,e22,_,_⟩:=DataW.trod_int Tryz.underlying3 (show DataW.trod enc Tryz.prog W 0 (fun _=>true) true n 3 [c22]=some y22 from h22)
  obtain rfl:=(List.cons.inj e22).1;clear e22;obtain⟨y23,h23⟩:=go 23 _ rfl
  obtain⟨k23,e23,_,_⟩:=DataW.trod_string Tryz.underlying9 (show DataW.trod enc Tryz.prog W 0 (fun _=>true) true n 9 [c23]=some y23 from h23)
  obtain rfl:=(List.cons.inj e23).1;clear e23;obtain⟨y24,h24⟩:=go 24 _ rfl
  obtain⟨a24,l24,n24,e24,r24,_⟩:=k1d (show DataW.trod enc Tryz.prog W 0 (fun _=>true) true n 27 [c24]=some y24 from h24)
  obtain rfl:=(List.cons.inj e24).1;clear e24;exact⟨⟨k0,k1,k2,k3,k4,k5,k6,k7,k8,k9,k10,k11,k12,k13,k14,k15,k16,k17,k18,k19,k20,a21,l21,n21,k22,k23,a24,l24,n24⟩,rfl,r21,r24⟩
theorem laidOut:laidOutB Tryz.prog=true:=by kernel_rfl
theorem again {t:TypeId}(hr:Tryz.prog.readableRec t=true)(hrow:t<Tryz.prog.types.size){W':World}{v:Value}{d:DataW H}{ps:List MemPlace}
    (h:DataW.Trod enc Tryz.prog W 0 (fun _=>true) true t v d ps) (hb:Below W.heap.size W W') (hlt:∀ x∈ps,x.block<W.heap.size) :
    DataW.Trod enc Tryz.prog W' 0 (fun b=>decide (b<W.heap.size)) true t v d ps:=Below.trod laidOut hr hrow h hb hlt
end
end Open
namespace Kb
open Go.Joins Ms Box All An K1
open F1 (T)
open Ap (p0b z0a)
open Tl (cellsT TRow)
open Go.Proofs.YtllhobicfclheaaGreatDoor.Open (d0h els n0y)
open Bk (Bk Sh b0a f0a a0a o0a)
open Go.Deep
theorem shX:Sh Tryz.prog 74 7:=⟨_,Tryz.underlying74,by kernel_rfl⟩
theorem oneX (x:Kx):(x.cells.all fun x=>x.oneCell')=true:=by simp[Kx.cells,Value.oneCell']
theorem t0c {ops:Array Oper}{rest:List Oper}{o:Oper}{a:Act}{w:World}{Q:Exit→Act→World→Prop}(hgd:o.guard=none)(x:Operand)(ho:o.op = .load 74 x){b:Nat}(hx:a.eval x = .pointer (some ⟨b,0,none⟩)){m:Kx}(hb:Bk 74 w b m.cells)
    (h:wpList Tryz.prog ops Q rest (a.put o.dst (.agg m.cells)) w):wpList Tryz.prog ops Q (o::rest) a w:=f0a shX hgd x ho hx hb rfl h
theorem s0b {ops:Array Oper}{rest:List Oper}{o:Oper}{a:Act}{w:World}{Q:Exit→Act→World→Prop}(hgd:o.guard=none)(x y:Operand)(ho:o.op = .store 74 x y){b:Nat}(hx:a.eval x = .pointer (some ⟨b,0,none⟩)){m m':Kx}(hy:a.eval y = .agg m'.cells)(hb:Bk 74 w b m.cells)
    (h:wpList Tryz.prog ops Q rest (a.put o.dst undef) (w.setRow b m'.cells)):wpList Tryz.prog ops Q (o::rest) a w:=a0a shX hgd x y ho hx hy hb rfl rfl (oneX m') h
def PlL (l l':List M):Prop:=l.length=l'.length∧∀ i (h:i<l.length) (h':i<l'.length),Pl l[i] l'[i]
theorem PlL.nil:PlL [] []:=⟨rfl,fun i h=>absurd h (by simp)⟩
theorem PlL.one {n m:M}(h:Pl n m):PlL [n] [m]:=⟨rfl,fun i h1 h2=>by
  obtain rfl:i=0:=by(simp at h1;exact h1)
  exact h⟩
theorem w0l (l:List M):sameL l l=true:=s0g rfl fun i h1 h2=>a1f _
def MOwn (B:Nat)(w:World)(a:Option Addr)(l:List M):Prop:=
  ∀ i (h:i<l.length),∃ p,a=some p∧B≤p.block∧p.block<w.heap.size∧(∀ j v,(l[i].cells.toList)[j]?=some v→w.cell? ((p.add (i*25)).add j)=some v)∧l[i].ll = []∧Sx.Lst B w (.slice l[i].sa l[i].sl.length l[i].sc) l[i].sl
theorem MOwn.nil (B:Nat)(w:World)(a:Option Addr):MOwn B w a []:=fun i hi=>absurd hi (by simp)
theorem MOwn.row {B:Nat}{w:World}{a:Option Addr}{l:List M}(h:MOwn B w a l):MRow w a l:=fun i hi=>by
  obtain⟨p,h1,_,h3,h4,h5,h6⟩:=h i hi
  exact⟨p,h1,h3,h4,by rw[h5];exact DRow.nil _ _,h6.row⟩
theorem MOwn.below {B:Nat}{w w':World}{a:Option Addr}{l:List M}(h:MOwn B w a l)(hb:Below w.heap.size w w'):MOwn B w' a l:=fun i hi=>by
  obtain⟨p,h1,h2,h3,h4,h5,h6⟩:=h i hi
  exact⟨p,h1,h2,Nat.lt_of_lt_of_le h3 hb.size,fun j v hv=>(hb.cell (by rw[b0b,b0b];exact h3)).trans (h4 j v hv),h5,h6.below hb⟩
theorem MOwn.mono {B B':Nat}{w:World}{a:Option Addr}{l:List M}(h:MOwn B w a l)(hB:B'≤B):MOwn B' w a l:=fun i hi=>by
  obtain⟨p,h1,h2,h3,h4,h5,h6⟩:=h i hi
  exact⟨p,h1,Nat.le_trans hB h2,h3,h4,h5,s0e h6 hB⟩
theorem MOwn.under {B g:Nat}{w:World}{a:Option Addr}{l:List M}(h:MOwn B w a l)(hg:g<B)(cs:Array Value):MOwn B (w.setRow g cs) a l:=fun i hi=>by
  obtain⟨p,h1,h2,h3,h4,h5,h6⟩:=h i hi
  refine⟨p,h1,h2,by simpa using h3,fun j v hv=>?_,h5,f0c h6 hg cs⟩
  have hne:((p.add (i*25)).add j).block≠g:=by rw[b0b,b0b];omega
  have hb:Below (g+1) (w.setRow g cs) (w.setRow g cs):=Below.refl _ _
  have:=h4 j v hv
  unfold World.cell? at this⊢
  rw[setRow_other w g _ cs hne]
  exact this
def AnsC (p:Kx×List M×Int)(w:World)(e:Ending)(w':World):Prop:=
  ∃ a c l,e = .returned (.tuple #[.agg p.1.cells,.slice a l.length c,.int .i64 p.2.2])∧PlL l p.2.1∧MOwn w.heap.size w' a l∧Below w.heap.size w w'
theorem AnsC.no {p:Kx×List M×Int}{w w':World}{c:Kx}{d:Int}(h:p=(c,[],d))(hb:Below w.heap.size w w'):AnsC p w (.returned (.tuple #[.agg c.cells,.slice none 0 0,.int .i64 d])) w':=by
 subst h;exact⟨none,0,[],rfl,PlL.nil,MOwn.nil _ _ _,hb⟩
theorem a0p {B:Nat}{w:World}{n:M}(h:n.ll = [])(hl:Sx.Lst B w (.slice n.sa n.sl.length n.sc) n.sl)(hB:B≤w.heap.size):MOwn B (w.alloc (.cells n.cells 29)) (some ⟨w.heap.size,0,none⟩) [n]:=by
 intro i hi
 obtain rfl:i=0:=by(simp at hi;exact hi)
 refine⟨_,rfl,hB,by rw[b0a];exact Nat.lt_succ_self _,fun j v hv=>?_,h,hl.below (balloc (Below.refl _ w) _)⟩
 have:=z0a n w j v hv;rw[p0b]at this;rw[p0b,p0b,Nat.zero_mul,Nat.add_zero];exact this
section
variable {H:Type} {enc:TypeId×Value→H} {W:World}
theorem t0n {fuel:Nat}{cs:List Value}{x:DataW H×List MemPlace}(h:DataW.trod enc Tryz.prog W 0 (fun _=>true) true fuel 29 cs=some x) :
    ∃ m:M,cs=m.cells.toList∧DRow W m.la m.ll∧SRow W m.sa m.sl∧m.pfx.size≤maxLen:=by
 obtain⟨m,rfl,hd,hs⟩:=n0y h;refine⟨m,rfl,hd,hs,?_⟩
 obtain⟨_,n,go⟩:=d0h Tryz.underlying29 (by kernel_rfl) h
 obtain⟨y6,h6⟩:=go 6 _ rfl
 obtain⟨k6,e6,_,z6⟩:=DataW.trod_string Tryz.underlying9 (show DataW.trod enc Tryz.prog W 0 (fun _=>true) true n 9 [.string m.pfx]=some y6 from h6)
 have e:m.pfx=k6:=by
  have:=(List.cons.inj e6).1;injection this
 rw[e];exact z6
theorem r1f {base:Nat}{v:Value}{d:DataW H}{p:List MemPlace}(hv:Value.okWide Tryz.prog W .any base 29 v)(h:DataW.Trod enc Tryz.prog W 0 (fun _=>true) true 29 v d p) :
    ∃ m:M,v = .agg m.cells∧DRow W m.la m.ll∧SRow W m.sa m.sl∧m.pfx.size≤maxLen:=by
 obtain⟨cs,rfl,hsz⟩:=okWide_struct Tryz.underlying29 hv;obtain⟨fuel,hf⟩:=h;obtain⟨m,hm,hd,hs,hp⟩:=t0n hf;have:cs=m.cells:=Array.ext' hm;subst this;exact⟨m,rfl,hd,hs,hp⟩
end
end Kb
namespace Tc
open Go.RowKit Go.ChangeShapes Go.WideShapes Go.Joins
structure Tab (w:World):Prop where
  a0:w.cell? ⟨0,0,none⟩=some (.int .i64 0)
  a1:w.cell? ⟨0,1,none⟩=some (.int .i64 4)
  a2:w.cell? ⟨0,2,none⟩=some (.int .i64 16)
  a3:w.cell? ⟨0,3,none⟩=some (.int .i64 8)
  s0:w.cell? ⟨1,0,none⟩=some (.int .i64 0)
  s1:w.cell? ⟨1,1,none⟩=some (.int .i64 0)
  s2:w.cell? ⟨1,2,none⟩=some (.int .i64 0)
  s3:w.cell? ⟨1,3,none⟩=some (.int .i64 32)
  s4:w.cell? ⟨1,4,none⟩=some (.int .i64 0)
  s5:w.cell? ⟨1,5,none⟩=some (.int .i64 128)
  s6:w.cell? ⟨1,6,none⟩=some (.int .i64 64)
  s7:w.cell? ⟨1,7,none⟩=some (.int .i64 128)
  z0:w.cell? ⟨2,0,none⟩=some (.int .i64 0)
  z1:w.cell? ⟨2,1,none⟩=some (.int .i64 4)
  z2:w.cell? ⟨2,2,none⟩=some (.int .i64 16)
  z3:w.cell? ⟨2,3,none⟩=some (.int .i64 8)
theorem ga:Tryz.prog.globalNamed "roadbook/field.addrSizes" = some 0:=by kernel_rfl
theorem ta:(Tryz.prog.globals[0]?).map (·.type)=some 200:=by kernel_rfl
theorem g0:Tryz.prog.globalNamed "roadbook/route.spans" = some 1:=by kernel_rfl
theorem gz:Tryz.prog.globalNamed "roadbook/ctx.sizes" = some 2:=by kernel_rfl
theorem tz:(Tryz.prog.globals[2]?).map (·.type)=some 200:=by kernel_rfl
theorem t0:(Tryz.prog.globals[1]?).map (·.type)=some 203:=by kernel_rfl
theorem eight {α:Type}(l:List α)(h:l.length=8):∃ a b c d e f g i,l = [a,b,c,d,e,f,g,i]:=by
 match l,h with
 | [a,b,c,d,e,f,g,i],_=>exact⟨a,b,c,d,e,f,g,i,rfl⟩
theorem l0u {w:World}(h:laidMetH Tryz.prog [("roadbook/field.addrSizes",Rows.laid_roadbook_field_addrSizes),("roadbook/route.spans",Rows.laid_roadbook_route_spans),("roadbook/ctx.sizes",Rows.laid_roadbook_ctx_sizes)] w):Tab w:=by
 have h:laidMet Tryz.prog [("roadbook/field.addrSizes",Rows.laid_roadbook_field_addrSizes),("roadbook/route.spans",Rows.laid_roadbook_route_spans),("roadbook/ctx.sizes",Rows.laid_roadbook_ctx_sizes)] w:=by
  rw[MakeChecks.laidMetH_plain _ _ _ (by kernel_rfl)]at h;exact h
 have hz:Lib.TabIs Tryz.prog w "roadbook/ctx.sizes" .i64 [0,4,16,8]:=Lib.tabIs_of_head gz tz Tryz.underlying200 Tryz.underlying3 (by kernel_rfl) (by kernel_rfl) (rest:=_) (by exact h.tail.tail)
 have ha:Lib.TabIs Tryz.prog w "roadbook/field.addrSizes" .i64 [0,4,16,8]:=Lib.tabIs_of_head ga ta Tryz.underlying200 Tryz.underlying3 (by kernel_rfl) (by kernel_rfl) (rest:=_) (by exact h)
 have h:=h.tail;obtain⟨ps,⟨g',t',cs,f,p,q,hg',ht',hv,hd,_,_⟩,_⟩:=h;obtain rfl:=Option.some.inj (g0.symm.trans hg');obtain rfl:=Option.some.inj (t0.symm.trans ht')
 have cS:Tryz.prog.cellsOf 202=2:=by kernel_rfl
 have cA:Tryz.prog.cellsOf 203=8:=by kernel_rfl
 have c3:Tryz.prog.cellsOf 3=1:=by kernel_rfl
 obtain⟨xs,m,_,ex,hl,hn,hel⟩:=DataW.trod_array Tryz.underlying203 hd;rw[cA]at hl;obtain⟨a0,a1,a2,a3,a4,a5,a6,a7,hcs⟩:=eight _ hl
 have e0:=hel 0 (by decide)
 have e1:=hel 1 (by decide)
 have e2:=hel 2 (by decide)
 have e3:=hel 3 (by decide)
 rw[cS,hcs]at e0 e1 e2 e3
 match xs,hn,ex,e0,e1,e2,e3 with
 | [x0,x1,x2,x3],_,ex,e0,e1,e2,e3=>
  simp only[List.drop_zero,List.take_succ_cons,List.take_zero,Nat.zero_mul,Nat.one_mul,Nat.reduceMul,List.drop_succ_cons,List.getElem?_cons_zero,List.getElem?_cons_succ]at e0 e1 e2 e3;obtain⟨y0,y1,n0,hx0,_,f0,f1⟩:=trod_struct2 Tryz.underlying202 e0;obtain⟨y2,y3,n1,hx1,_,f2,f3⟩:=trod_struct2 Tryz.underlying202 e1;obtain⟨y4,y5,n2,hx2,_,f4,f5⟩:=trod_struct2 Tryz.underlying202 e2;obtain⟨y6,y7,n3,hx3,_,f6,f7⟩:=trod_struct2 Tryz.underlying202 e3;simp only[c3,List.drop_zero,List.take_succ_cons,List.take_zero,List.drop_succ_cons]at f0 f1 f2 f3 f4 f5 f6 f7;obtain⟨b0,q0,k0,_⟩:=DataW.trod_int Tryz.underlying3 f0;obtain⟨b1,q1,k1,_⟩:=DataW.trod_int Tryz.underlying3 f1;obtain⟨b2,q2,k2,_⟩:=DataW.trod_int Tryz.underlying3 f2;obtain⟨b3,q3,k3,_⟩:=DataW.trod_int Tryz.underlying3 f3;obtain⟨b4,q4,k4,_⟩:=DataW.trod_int Tryz.underlying3 f4;obtain⟨b5,q5,k5,_⟩:=DataW.trod_int Tryz.underlying3 f5;obtain⟨b6,q6,k6,_⟩:=DataW.trod_int Tryz.underlying3 f6;obtain⟨b7,q7,k7,_⟩:=DataW.trod_int Tryz.underlying3 f7;subst k0 k1 k2 k3 k4 k5 k6 k7;subst hx0 hx1 hx2 hx3;simp[Rows.laid_roadbook_route_spans]at ex;obtain⟨⟨⟨r0,r1⟩,⟨r2,r3⟩,⟨r4,r5⟩,r6,r7⟩,_⟩:=ex;simp only[List.cons.injEq,and_true]at q0 q1 q2 q3 q4 q5 q6 q7
  have hc:∀ i,w.cell? ⟨1,i,none⟩=cs.toList[i]?:=fun i=>by have:=World.var?_cell g0 hv i;simpa using this
  rw[hcs]at hc;subst q0 q1 q2 q3 q4 q5 q6 q7;subst r0 r1 r2 r3 r4 r5 r6 r7
  exact⟨ha.cell ga 0 (by decide),ha.cell ga 1 (by decide),ha.cell ga 2 (by decide),ha.cell ga 3 (by decide),hc 0,hc 1,hc 2,hc 3,hc 4,hc 5,hc 6,hc 7,hz.cell gz 0 (by decide),hz.cell gz 1 (by decide),hz.cell gz 2 (by decide),hz.cell gz 3 (by decide)⟩
theorem Tab.pos {w:World}(h:Tab w):2<w.heap.size:=by
 have h0:=World.block_lt_of_cell? _ _ h.a0;have h0:0<w.heap.size:=h0;have h1:=World.block_lt_of_cell? _ _ h.s0;have h2:=World.block_lt_of_cell? _ _ h.z0;have h1:1<w.heap.size:=h1;have h2:2<w.heap.size:=h2;omega
theorem Tab.under {B:Nat}{w w':World}(h:Tab w)(hb:Below B w w')(hB:2<B):Tab w':=by
 have c:∀ b i,b≤2→w'.cell? ⟨b,i,none⟩=w.cell? ⟨b,i,none⟩:=fun b i hi=>hb.cell (p:=⟨b,i,none⟩) (by show b<B;omega)
 exact⟨(c _ _ (by decide)).trans h.a0,(c _ _ (by decide)).trans h.a1,(c _ _ (by decide)).trans h.a2,(c _ _ (by decide)).trans h.a3,(c _ _ (by decide)).trans h.s0,(c _ _ (by decide)).trans h.s1,(c _ _ (by decide)).trans h.s2,(c _ _ (by decide)).trans h.s3,(c _ _ (by decide)).trans h.s4,(c _ _ (by decide)).trans h.s5,(c _ _ (by decide)).trans h.s6,(c _ _ (by decide)).trans h.s7,(c _ _ (by decide)).trans h.z0,(c _ _ (by decide)).trans h.z1,(c _ _ (by decide)).trans h.z2,(c _ _ (by decide)).trans h.z3⟩
theorem Tab.below {w w':World}(h:Tab w)(hb:Below w.heap.size w w'):Tab w':=h.under hb h.pos
theorem Tab.drew {w:World}(h:Tab w):Tab w.drew:=⟨h.a0,h.a1,h.a2,h.a3,h.s0,h.s1,h.s2,h.s3,h.s4,h.s5,h.s6,h.s7,h.z0,h.z1,h.z2,h.z3⟩
end Tc
end Go.Proofs.YtllhobicfclheaaGreatDoor
