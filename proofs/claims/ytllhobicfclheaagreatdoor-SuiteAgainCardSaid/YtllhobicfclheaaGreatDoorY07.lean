/-
  A part of a proof. No conditions.
-/
import Derived.Test.YtllhobicfclheaaGreatDoorY06
namespace Go.Proofs.YtllhobicfclheaaGreatDoor
open Go.ChangeShapes Go.WideShapes Go.ChangeAt Go.RowKit
set_option linter.unusedVariables false
set_option maxRecDepth 100000
set_option maxHeartbeats 51200000
namespace Cnt
open Ms Box Same
def bytesN (l:List El):Nat:=(l.map fun x=>2+x.1.size).sum
theorem f0z (l:List El)(k:Nat)(h:k<l.length):bytesN (l.take (k+1))=bytesN (l.take k)+(2+l[k].1.size):=by
 unfold bytesN;rw[List.take_succ_eq_append_getElem h,List.map_append,List.sum_append];simp only[List.map_cons,List.map_nil,List.sum_cons,List.sum_nil,Nat.add_zero]
theorem f0q (l:List El)(k:Nat):bytesN (l.take k)≤bytesN l:=by
 conv=>rhs;rw[←List.take_append_drop k l]
 unfold bytesN;rw[List.map_append,List.sum_append];omega
theorem int_eq {k:IntKind}{a b:Int}(h:a=b):Ending.returned (.int k a) = .returned (.int k b):=by rw[h]
theorem w0k (a:Option Addr)(c:Nat)(l:List El)(w:World)(hl:SRow w a l)(ln:l.length≤1048576)(lb:bytesN l≤1099511627776) :
    Calls Tryz.prog 241 #[.slice a l.length c] w fun e w'=>e = .returned (.int .i64 (bytesN l:Nat))∧Below w.heap.size w w':=by
 have LB:=Lib.hid lb;clear lb;go_in;go_wp2
 go_loopw [3,8] (fun n i wr=>∃ k:Nat,k≤l.length∧i = .int .i64 k∧n = .int .i64 (bytesN (l.take k):Nat)∧Hid (Below w.heap.size w wr)) (fun _ i _=>l.length - (intOf i).toNat)
 case atStart=>exact⟨0,Nat.zero_le _,rfl,rfl,Lib.hid (Below.refl _ _)⟩
 case round=>
  obtain⟨k,hk,rfl,rfl,HB⟩:=hrel;by_cases hlt:k<l.length
  · obtain⟨p,rfl,hp,c0,c1⟩:=(hl.below HB.out) k hlt;have HT:=Lib.hid (f0z l k hlt);have HM:=Lib.hid (f0q l (k+1))
    have hs:l[k].1.size≤1099511627776∧bytesN (l.take k)≤1099511627776:=by have:=HT.out;have:=HM.out;have:=LB.out;omega
    obtain⟨hs,hs2⟩:=hs;clear hl;rw[add_one]at c1;refine' qz11;generalize hq:bytesN (l.take k)=q at *;clear hq;go_wp2;go_roundw
    case rel=>exact⟨k+1,hlt,by go_num,by rw[HT.out];congr 1,Lib.hid ((HB.out.alloc HB.out.size _))⟩
    case measure=>simp[intOf];omega
  · refine' qz12;refine' qzj
    exact⟨int_eq (by rw[List.take_length]),HB.out⟩
def mayB (l:List El)(lo hi:Int):Bool:=l.all fun x=>decide (lo≤x.2)&&(decide (x.2≤hi)&&decide (x.1.size≤255))
theorem d0r (l:List El)(lo hi:Int)(k:Nat)(h:k<l.length):mayB (l.take (k+1)) lo hi=(mayB (l.take k) lo hi&&(decide (lo≤l[k].2)&&(decide (l[k].2≤hi)&&decide (l[k].1.size≤255)))):=by
 unfold mayB;rw[List.take_succ_eq_append_getElem h,List.all_append];simp
theorem p1n (l:List El)(lo hi:Int)(k:Nat)(h:k<l.length)(hn:(decide (lo≤l[k].2)&&(decide (l[k].2≤hi)&&decide (l[k].1.size≤255)))=false):mayB l lo hi=false:=by
 unfold mayB;rw[List.all_eq_false]
 exact⟨l[k],List.getElem_mem h,by rw[hn];simp⟩
theorem e1d (a:Option Addr)(c:Nat)(l:List El)(lo hi:Int)(w:World)(hl:SRow w a l)(ln:l.length≤1048576)(lb:∀ x∈l,x.1.size≤1099511627776) :
    Calls Tryz.prog 229 #[.slice a l.length c,.int .i64 lo,.int .i64 hi] w fun e w'=>e = .returned (.bool (mayB l lo hi))∧Below w.heap.size w w':=by
 have LB:=Lib.hid lb;clear lb;go_in;go_wp2
 go_loopw [11] (fun i wr=>∃ k:Nat,k≤l.length∧i = .int .i64 k∧Hid (mayB (l.take k) lo hi=true)∧Hid (Below w.heap.size w wr)) (fun i _=>l.length - (intOf i).toNat)
 case atStart=>exact⟨0,Nat.zero_le _,rfl,Lib.hid rfl,Lib.hid (Below.refl _ _)⟩
 case round=>
  obtain⟨k,hk,rfl,HN,HB⟩:=hrel;by_cases hlt:k<l.length
  · obtain⟨p,rfl,hp,c0,c1⟩:=(hl.below HB.out) k hlt;have HT:=Lib.hid (d0r l lo hi k hlt);have HF:=Lib.hid (p1n l lo hi k hlt);have hs:=LB.out _ (List.getElem_mem hlt)
    have HBA:=Lib.hid (fun o=>HB.out.alloc HB.out.size o)
    clear hl;rw[add_one]at c1;refine' qz11;obtain⟨s,n⟩:=u;by_cases h1:n<lo
    · refine' qzj
      exact⟨g0a (by symm;apply HF.out;simp;omega),HBA.out _⟩
    · by_cases h2:hi<n
      · refine' qzj
        exact⟨g0a (by symm;apply HF.out;simp;omega),HBA.out _⟩
      · by_cases h3:255<s.size
        · refine' qzj
          exact⟨g0a (by symm;apply HF.out;simp;omega),HBA.out _⟩
        · go_wp2;go_roundw
          case rel=>exact⟨k+1,hlt,by go_num,Lib.hid (by rw[HT.out,HN.out];simp;omega),Lib.hid (HBA.out _)⟩
          case measure=>simp[intOf];omega
  · refine' qz12;refine' qzj
    exact⟨g0a (by have:=HN.out;rw[List.take_length]at this;exact this.symm),HB.out⟩
end Cnt
namespace Few
open Ms Box Same Cnt
def small (n:Nat)(l:List El):Bool:=l.all fun x=>decide (x.1.size≤n)
theorem z0q (n:Nat)(l:List El)(k:Nat)(h:k<l.length):small n (l.take (k+1))=(small n (l.take k)&&decide (l[k].1.size≤n)):=by
 unfold small;rw[List.take_succ_eq_append_getElem h,List.all_append];simp
theorem m0t (n:Nat)(l:List El)(k:Nat)(h:k<l.length)(hn:n<l[k].1.size):small n l=false:=by
 unfold small;rw[List.all_eq_false]
 exact⟨l[k],List.getElem_mem h,by simp;omega⟩
def fewB (m:M):Bool:=decide (m.ll.length≤300)&&decide (m.sl.length≤60)&&decide (wrap64 ((m.auth.size:Int)+m.pfx.size)≤200)&&decide (wrap64 ((m.next.size:Int)+m.id.size)≤200)&&decide (wrap64 ((m.addr.size:Int)+m.orig.size)≤200)&&decide (m.data.size≤300)&&small 50 m.ll&&small 300 m.sl
theorem b1c (m:M)(w:World)(hd:DRow w m.la m.ll)(hs:SRow w m.sa m.sl) :
    Calls Tryz.prog 16 #[.agg m.cells] w fun e w'=>e = .returned (.bool (fewB m))∧Below w.heap.size w w':=by
 have bel:=balloc (Below.refl _ w) (.cells m.cells 29);have hd:=hd.below (balloc (Below.refl _ w) (.cells m.cells 29));have hs:=hs.below (balloc (Below.refl _ w) (.cells m.cells 29));have b0:=Bx.new w m
 have HFB:=Lib.hid (show fewB m=(decide (m.ll.length≤300)&&decide (m.sl.length≤60)&&decide (wrap64 ((m.auth.size:Int)+m.pfx.size)≤200)&&decide (wrap64 ((m.next.size:Int)+m.id.size)≤200)&&decide (wrap64 ((m.addr.size:Int)+m.orig.size)≤200)&&decide (m.data.size≤300)&&small 50 m.ll&&small 300 m.sl)from rfl)
 refine' qz2f;have c3:=b0.cs.c3;have c6:=b0.cs.c6;have c9:=b0.cs.c9;have c11:=b0.cs.c11;have c19:=b0.cs.c19;have c20:=b0.cs.c20;have c21:=b0.cs.c21;have c23:=b0.cs.c23;have c24:=b0.cs.c24;clear b0;by_cases h1:300<m.ll.length
 · refine' qzj
   exact⟨g0a (by rw[HFB.out];simp;omega),bel⟩
 by_cases h2:60<m.sl.length
 · refine' qzj
   exact⟨g0a (by rw[HFB.out];simp;omega),bel⟩
 by_cases h3:200<wrap64 ((m.auth.size:Int)+m.pfx.size)
 · refine' qzj
   exact⟨g0a (by rw[HFB.out];simp;omega),bel⟩
 by_cases h4:200<wrap64 ((m.next.size:Int)+m.id.size)
 · refine' qzj
   exact⟨g0a (by rw[HFB.out];simp;omega),bel⟩
 by_cases h5:200<wrap64 ((m.addr.size:Int)+m.orig.size)
 · refine' qzj
   exact⟨g0a (by rw[HFB.out];simp;omega),bel⟩
 by_cases h6:300<m.data.size
 · refine' qzj
   exact⟨g0a (by rw[HFB.out];simp;omega),bel⟩
 have HF2:Hid (fewB m=(small 50 m.ll&&small 300 m.sl)):=Lib.hid (by rw[HFB.out];simp[show m.ll.length≤300 by omega,show m.sl.length≤60 by omega,show wrap64 ((m.auth.size:Int)+m.pfx.size)≤200 by omega,show wrap64 ((m.next.size:Int)+m.id.size)≤200 by omega,show wrap64 ((m.addr.size:Int)+m.orig.size)≤200 by omega,show m.data.size≤300 by omega])
 clear HFB;refine' qzcn
 have l1:m.ll.length≤300:=by omega
 have l2:m.sl.length≤60:=by omega
 clear h1 h2 h3 h4 h5 h6 c3 c6 c9 c11 c19 c20 c23;generalize m.ll=x at *;generalize m.sl=y at *;go_wp2
 go_loopw [3] (fun i wr=>∃ k:Nat,k≤x.length∧i = .int .i64 k∧Hid (small 50 (x.take k)=true)∧wr=V) (fun i _=>x.length - (intOf i).toNat)
 case atStart=>exact⟨0,Nat.zero_le _,rfl,Lib.hid rfl,rfl⟩
 case round=>
  obtain⟨k,hk,rfl,HN,rfl⟩:=hrel;by_cases hlt:k<x.length
  · obtain⟨p,hp,_,d0,_⟩:=hd k hlt;rw[hp]at c21;have HT:=Lib.hid (z0q 50 x k hlt);have HF:=Lib.hid (m0t 50 x k hlt);clear hd hs hp c24;generalize x[k]=u at *;obtain⟨s,n⟩:=u;by_cases h1:50<s.size
    · refine' qzj
      exact⟨g0a (by rw[HF2.out,HF.out h1];simp),bel⟩
    · go_wp2;go_roundw
      case rel=>exact⟨k+1,hlt,by go_num,Lib.hid (by rw[HT.out,HN.out];simp;omega),by first|rfl|trivial⟩
      case measure=>simp[intOf];omega
  · obtain rfl:k=x.length:=by omega
    have HX:Hid (small 50 x=true):=Lib.hid (by have:=HN.out;rwa [List.take_length]at this)
    clear HN hd;go_wp2
    go_loopw [4] (fun i wr2=>∃ k:Nat,k≤y.length∧i = .int .i64 k∧Hid (small 300 (y.take k)=true)∧wr2=wr) (fun i _=>y.length - (intOf i).toNat)
    case atStart=>exact⟨0,Nat.zero_le _,rfl,Lib.hid rfl,rfl⟩
    case round=>
     obtain⟨k,hk,rfl,HN,rfl⟩:=hrel;by_cases hlt:k<y.length
     · obtain⟨p,hp,_,_,d1⟩:=hs k hlt;rw[hp]at c24;have HT:=Lib.hid (z0q 300 y k hlt);have HF:=Lib.hid (m0t 300 y k hlt);clear hs hp c21;rw[add_one]at d1;generalize y[k]=u at *;obtain⟨s,n⟩:=u;by_cases h1:300<s.size
       · refine' qzj
         exact⟨g0a (by rw[HF2.out,HF.out h1];simp),bel⟩
       · go_wp2;go_roundw
         case rel=>exact⟨k+1,hlt,by go_num,Lib.hid (by rw[HT.out,HN.out];simp;omega),by first|rfl|trivial⟩
         case measure=>simp[intOf];omega
     · obtain rfl:k=y.length:=by omega
       have HY:Hid (small 300 y=true):=Lib.hid (by have:=HN.out;rwa [List.take_length]at this)
       clear HN hs;refine' qzj
       exact⟨g0a (by rw[HF2.out,HX.out,HY.out];rfl),bel⟩
end Few
namespace All
open Ms Box Same SameP RSame Hs Few
def MRow (w:World)(a:Option Addr)(l:List M):Prop:=
  ∀ i (h:i<l.length),∃ p,a=some p∧p.block<w.heap.size∧(∀ j v,(l[i].cells.toList)[j]?=some v→w.cell? ((p.add (i*25)).add j)=some v)∧DRow w l[i].la l[i].ll∧SRow w l[i].sa l[i].sl
theorem MRow.below {w w':World}{a:Option Addr}{l:List M}(h:MRow w a l)(hb:Below w.heap.size w w'):MRow w' a l:=by
 intro i hi;obtain⟨p,h1,h2,h3,h4,h5⟩:=h i hi
 refine⟨p,h1,Nat.lt_of_lt_of_le h2 hb.size,fun j v hv=>?_,h4.below hb,h5.below hb⟩
 rw[hb.cell (by rw[b0b,b0b];exact h2)]
 exact h3 j v hv
theorem MRow.nil (w:World)(a:Option Addr):MRow w a []:=fun i hi=>absurd hi (by simp)
def Short (m:M):Prop:=m.ll.length≤1048576∧m.sl.length≤1048576
theorem loadVarA {w:World}{q:Addr}{m:M}(h:∀ j v,(m.cells.toList)[j]?=some v→w.cell? (q.add j)=some v):(loadVar 29 q).run Tryz.prog w = .ok (.agg m.cells) w:=by
 have hl:(loadCells q 25).run Tryz.prog w = .ok m.cells w:=by
  have:=run_loadCells_list (P:=Tryz.prog) w q m.cells.toList h
  rw[show m.cells.toList.length=25 from rfl]at this
  rw[this]
 have hagg:(isAgg 29).run Tryz.prog w = .ok true w:=by go_simp
 have hsz:(sizeOf 29).run Tryz.prog w = .ok 25 w:=by go_simp
 simp only[loadVar,Sem.run_bind,hagg,Result.andThen_ok,if_true,hsz,hl,Sem.run_pure]
theorem t0i {o:Oper}{ρ:Operand→Value}{x:Operand}{q:Addr}{m:M}{w:World}(ho:o.op = .load 29 x)(hx:ρ x = .pointer (some q))(h:∀ j v,(m.cells.toList)[j]?=some v→w.cell? (q.add j)=some v) :
    (execOp ρ o).run Tryz.prog w = .ok (.value (.agg m.cells)) w:=by
 unfold execOp;simp only[ho,hx,Instr.loadAt,Instr.sureAddr,Sem.run_bind,Sem.run_pure,Result.andThen_ok,loadVarA h]
theorem k0d {ops:Array Oper}{rest:List Oper}{o:Oper}{a:Act}{w:World}{Q:Exit→Act→World→Prop}(hgd:o.guard=none)(x:Operand)(ho:o.op = .load 29 x)
    {q:Addr} (hx:a.eval x = .pointer (some q)) {m:M} (hm:∀ j v,(m.cells.toList)[j]?=some v→w.cell? (q.add j)=some v)
    (h:wpList Tryz.prog ops Q rest (a.put o.dst (.agg m.cells)) w):wpList Tryz.prog ops Q (o::rest) a w:=
  wpList_plain hgd fun K hK=>by
    unfold Oper.wp
    rw[t0i ho hx hm]
    exact hK _ _ h
theorem indexM (p:Addr)(n c i:Nat)(h:i<n)(W:World):(Instr.indexAt 22 (.slice (some p) n c) (.int .i64 (i:Int))).run Tryz.prog W = .ok (.pointer (some (p.add (i*25)))) W:=by
 have he:Tryz.prog.elem 22=29:=by simp[Program.elem,Tryz.underlying22]
 have hz:(sizeOf 29).run Tryz.prog W = .ok 25 W:=by go_simp
 rw[run_indexAt_slice W 22 p n c .i64 (i:Int) (by rw[he];exact Tryz.underlying22),if_pos (by omega),he,hz]
 rfl
def fewL (l:List M)(n:Int):Bool:=decide ((l.length:Int)≤n)&&l.all fewB
theorem x1j (l:List M)(k:Nat)(h:k<l.length):(l.take (k+1)).all fewB=((l.take k).all fewB&&fewB l[k]):=by
 rw[List.take_succ_eq_append_getElem h,List.all_append];simp
theorem e1m (l:List M)(k:Nat)(h:k<l.length)(hn:fewB l[k]=false):l.all fewB=false:=by
 rw[List.all_eq_false]
 exact⟨l[k],List.getElem_mem h,by rw[hn];simp⟩
theorem l1a (a:Option Addr)(c:Nat)(l:List M)(n:Int)(w:World)(hl:MRow w a l)(hn:l.length≤9223372036854775807) :
    Calls Tryz.prog 7 #[.slice a l.length c,.int .i64 n] w fun e w'=>e = .returned (.bool (fewL l n))∧Below w.heap.size w w':=by
 have HFL:=Lib.hid (show fewL l n=(decide ((l.length:Int)≤n)&&l.all fewB)from rfl)
 go_in;by_cases h0:n<(l.length:Int)
 · refine' qzj
   exact⟨g0a (by rw[HFL.out];simp;omega),Below.refl _ _⟩
 have HF2:Hid (fewL l n=l.all fewB):=Lib.hid (by rw[HFL.out];simp[show(l.length:Int)≤n by omega])
 clear HFL;go_wp2;clear h0
 go_loopw [5] (fun i wr=>∃ k:Nat,k≤l.length∧i = .int .i64 k∧Hid ((l.take k).all fewB=true)∧Hid (Below w.heap.size w wr)) (fun i _=>l.length - (intOf i).toNat)
 case atStart=>exact⟨0,Nat.zero_le _,rfl,Lib.hid rfl,Lib.hid (Below.refl _ _)⟩
 case round=>
  obtain⟨k,hk,rfl,HN,HB⟩:=hrel;by_cases hlt:k<l.length
  · obtain⟨p,rfl,_,hc,hd,hs⟩:=(hl.below HB.out) k hlt;have P:=Lib.hid (b1c l[k] wr hd hs);have HT:=Lib.hid (x1j l k hlt);have HF:=Lib.hid (e1m l k hlt);have HC:=Lib.hid hc;clear hl hc hd hs;refine' qz11;cases hu:fewB u
    · have HU:=Lib.hid hu;rw[hu]at P;clear hu;refine' qzz;refine' qz10;refine' qzj
      exact⟨g0a (by rw[HF2.out,HF.out HU.out]),bcall HB.out hb1⟩
    · have HU:=Lib.hid hu;rw[hu]at P;clear hu;refine' qzz;refine' qz10;have HB1:=Lib.hid (bcall HB.out hb1);clear hb1;go_wp2;go_roundw
      case rel=>exact⟨k+1,hlt,by go_num,Lib.hid (by rw[HT.out,HN.out,HU.out];rfl),HB1⟩
      case measure=>simp[intOf];omega
  · refine' qz12;refine' qzj
    exact⟨g0a (by rw[HF2.out];have:=HN.out;rw[List.take_length]at this;exact this.symm),HB.out⟩
open Classical in
noncomputable def sameL (x y:List M):Bool:=decide (x.length=y.length∧∀ i (hx:i<x.length) (hy:i<y.length),M.same x[i] y[i]=true)
theorem s0g {x y:List M}(hl:x.length=y.length)(h:∀ i (hx:i<x.length) (hy:i<y.length),M.same x[i] y[i]=true):sameL x y=true:=by unfold sameL;exact decide_eq_true ⟨hl,h⟩
theorem i1e {x y:List M}(hl:x.length≠y.length):sameL x y=false:=by unfold sameL;exact decide_eq_false fun h=>hl h.1
theorem s1k {x y:List M}{k:Nat}(hx:k<x.length)(hy:k<y.length)(h:M.same x[k] y[k]=false):sameL x y=false:=by
 unfold sameL
 exact decide_eq_false fun h2=>by have:=h2.2 k hx hy;rw[h]at this;cases this
theorem a1f (m:M):M.same m m=true:=by simp[M.same,M.flatE]
theorem c0l {o:Oper}{ρ:Operand→Value}{x y:Operand}{p:Addr}{n c i:Nat}{w:World}(ho:o.op = .indexAddr 22 x y)(hx:ρ x = .slice (some p) n c)(hy:ρ y = .int .i64 (i:Int))(h:i<n) :
    (execOp ρ o).run Tryz.prog w = .ok (.value (.pointer (some (p.add (i*25))))) w:=by
 unfold execOp;simp only[ho,hx,hy,Sem.run_bind,indexM p n c i h,Result.andThen_ok,Sem.run_pure]
def S3 (w:World)(p q:Addr)(u v:M)(W:World):Prop:=(∀ j x,(u.cells.toList)[j]?=some x→W.cell? (p.add j)=some x)∧(∀ j x,(v.cells.toList)[j]?=some x→W.cell? (q.add j)=some x)∧u.In W∧v.In W∧p.block<W.heap.size∧q.block<W.heap.size∧Below w.heap.size w W
theorem S3.keep {w:World}{p q:Addr}{u v:M}(W w1:World)(h:S3 w p q u v W)(hb:Below W.heap.size W w1):S3 w p q u v w1:=
  ⟨fun j x hx=>(hb.cell (p:=p.add j) (by rw[b0b];exact h.2.2.2.2.1)).trans (h.1 j x hx),fun j x hx=>(hb.cell (p:=q.add j) (by rw[b0b];exact h.2.2.2.2.2.1)).trans (h.2.1 j x hx),h.2.2.1.below hb,h.2.2.2.1.below hb,Nat.lt_of_lt_of_le h.2.2.2.2.1 hb.size,Nat.lt_of_lt_of_le h.2.2.2.2.2.1 hb.size,bcall h.2.2.2.2.2.2 hb⟩
theorem h0n (a b:Option Addr)(ca cb:Nat)(x y:List M)(w:World)(hx:MRow w a x)(hy:MRow w b y)(sx:∀ m∈x,Short m)(sy:∀ m∈y,Short m)(lx:x.length≤1048576)(ly:y.length≤1048576) :
    Calls Tryz.prog 15 #[.slice a x.length ca,.slice b y.length cb] w fun e w'=>e = .returned (.bool (sameL x y))∧Below w.heap.size w w':=by
 by_cases hl:x.length=y.length
 · refine' qz7k;go_in;go_wp2
   go_loopw [5] (fun i wr=>∃ k:Nat,k≤x.length∧i = .int .i64 k∧Hid (∀ i,i<k→∀ (hx:i<x.length) (hy:i<y.length),M.same x[i] y[i]=true)∧Hid (Below w.heap.size w wr)) (fun i _=>x.length - (intOf i).toNat)
   case atStart=>exact⟨0,Nat.zero_le _,rfl,Lib.hid (fun i hi=>absurd hi (by omega)),Lib.hid (Below.refl _ _)⟩
   case round=>
    obtain⟨k,hk,rfl,HT,HB⟩:=hrel;by_cases hlt:k<x.length
    · have hlt2:k<y.length:=by omega
      obtain⟨p,rfl,hp,hc,hcd,hcs⟩:=(hx.below HB.out) k hlt;obtain⟨q,rfl,hq,hd,hdd,hds⟩:=(hy.below HB.out) k hlt2;have hsx:=sx _ (List.getElem_mem hlt);have hsy:=sy _ (List.getElem_mem hlt2)
      have HN:=Lib.hid (fun h=>s1k (x:=x) (y:=y) (k:=k) hlt hlt2 h)
      have HS:=Lib.hid (fun(h:M.same x[k] y[k]=true)=>show ∀ i,i<k+1→∀ (hx:i<x.length) (hy:i<y.length),M.same x[i] y[i]=true from fun i hi h1 h2=>by
       by_cases hik:i<k
       ·
        exact HT.out i hik h1 h2
       ·
        obtain rfl:i=k:=by omega
        exact h)
      have H0:=Lib.hid (show S3 w (p.add (k*25)) (q.add (k*25)) x[k] y[k] wr.drew from S3.keep wr _ ⟨hc,hd,⟨hcd,hcs,hsx.1,hsx.2⟩,⟨hdd,hds,hsy.1,hsy.2⟩,by rw[b0b];exact hp,by rw[b0b];exact hq,HB.out⟩ (Below.refl _ _).drew)
      have P:=Lib.hid (fun W (h:S3 w (p.add (k*25)) (q.add (k*25)) x[k] y[k] W)=>heldP (S3 w (p.add (k*25)) (q.add (k*25)) x[k] y[k]) S3.keep (x1d x[k] y[k] W h.2.2.1 h.2.2.2.1) h)
      clear HT hx hy sx sy hc hd hcd hcs hdd hds hsx hsy hp hq hl HB;generalize x[k]=u at *;generalize y[k]=v at *;cases hs:M.same u v
      · have HN1:=Lib.hid (HN.out hs);rw[hs]at P;clear hs HN HS;refine' qzcp
        refine wp_region_held_drew (S:=S3 w (p.add (k*25)) (q.add (k*25)) u v) (by kernel_rfl) H0.out (fun hS=>?_)
        clear H0;generalize wr.drew=w0 at *;refine' qz1g;refine' qz1z;refine' qz9w;refine H.tk (i:=3) (v := .agg (M.cells u)) ?h3 hS ?_
        case h3=>exact fun w hw=>t0i (x := .tmp 19) rfl rfl hw.1
        refine' qz20;refine' qz21;refine' qz9v;refine' qzbh;refine' qzu;refine' qzk;refine(P.out _ hS).mono ?_;refine' qz43;refine' qzbr;refine' qz2i
        refine H.tk (i:=9) (v:=(.bool true)) (fun w _=>rfl) hS ?_
        refine' qz1;refine' qzj
        exact⟨g0a (by rw[HN1.out]),hS.2.2.2.2.2.2⟩
      · have HS1:=Lib.hid (HS.out hs);rw[hs]at P;clear hs HN HS;refine' qzcp
        refine wp_region_held_drew (S:=S3 w (p.add (k*25)) (q.add (k*25)) u v) (by kernel_rfl) H0.out (fun hS=>?_)
        clear H0;generalize wr.drew=w0 at *;refine' qz1g;refine' qz1z;refine' qz9w;refine H.tk (i:=3) (v := .agg (M.cells u)) ?h3 hS ?_
        case h3=>exact fun w hw=>t0i (x := .tmp 19) rfl rfl hw.1
        refine' qz20;refine' qz21;refine' qz9v;refine' qzbh;refine' qzu;refine' qzk;refine(P.out _ hS).mono ?_;refine' qz43;refine' qzbr;refine' qz2i
        refine H.tk (i:=9) (v:=(.bool false)) (fun w _=>rfl) hS ?_
        refine' qz1;have HB3:=Lib.hid hS.2.2.2.2.2.2;clear hS;go_wp2;go_roundw
        case rel=>exact⟨k+1,hlt,by go_num,HS1,HB3⟩
        case measure=>simp[intOf];omega
    · obtain rfl:k=x.length:=by omega
      have he:sameL x y=true:=s0g HL.out (fun i h1 h2=>HT.out i h1 h1 h2)
      have HE:=Lib.hid he;clear he;refine' qzj
      exact⟨g0a (by rw[HE.out]),HB.out⟩
 · refine' qz67;exact⟨g0a (i1e hl).symm,Below.refl _ _⟩
end All
namespace Ix
open Ms Box Rp Ps Es Hs All PRt
theorem int_eq {k:IntKind}{a b:Int}(h:a=b):Ending.returned (.int k a) = .returned (.int k b):=by rw[h]
def idxW (l:List M):Int:=match bad (ckW l) l.length with|some i=>((i:Nat):Int)|none=>-1
theorem h0h {l:List M}{k:Nat}(hk:k<l.length)(h:∀ i,i<k→ckW l i=0)(hn:ckW l k≠0):idxW l=((k:Nat):Int):=by
 unfold idxW;rw[j0e hk h hn]
theorem v0j {l:List M}(h:∀ i,i<l.length→ckW l i=0):idxW l = -1:=by
 unfold idxW;rw[d0d h]
theorem x0j {w:World}{a:Option Addr}{l:List M}(h:MRow w a l)(hs:∀ m∈l,Short m){k:Nat}(hk:k<l.length):l[k].In w:=by
 obtain⟨p,_,_,_,hd,hss⟩:=h k hk;have:=hs _ (List.getElem_mem hk);exact⟨hd,hss,this.1,this.2⟩
theorem e0i (a:Option Addr)(c:Nat)(l:List M)(w:World)(hl:MRow w a l)(hs:∀ m∈l,Short m)(hn:l.length≤1048576) :
    Calls Tryz.prog 84 #[.slice a l.length c,.func (.func 85) #[] #[]] w fun e w'=>e = .returned (.int .i64 (idxW l))∧Below w.heap.size w w':=by
 go_in;refine' qz13
end Ix
namespace Hx
section
variable {P:Program} {ops:Array Oper} {Q:Exit→Act→World→Prop} {md:Region.Mode} {S:World→Prop}
theorem H.storeRow {i:Nat}{o:Oper}{fuel:Nat}{listed:Array Bool}{a:Act}{w:World}{ty:TypeId}{x y:Operand}
    (ho:ops[i]?=some o) (hw:Region.wanted o (yielded ops a.tmps)=true) (hd:o.dst=none) (hop:o.op = .store ty x y) (hr:Region.ready md ops listed = [i])
    (g:Nat) (cells:Array Value) (hx:a.eval x = .pointer (some ⟨g,0,none⟩)) (hy:a.eval y = .agg cells) (t:TypeId) (old:Array Value) (hg:w.heap[g]?=some (.cells old t (0,0)))
    (hi:(P.info? ty).map (·.size)=some cells.size) (hold:old.size=cells.size) (h1:cells.all (·.oneCell')=true) (hS:S (w.setRow g cells))
    (h:wpAnyH P md ops Q S fuel (listed.setIfInBounds i true) a (w.setRow g cells)):wpAnyH P md ops Q S (fuel+1) listed a w:=by
 refine wpAnyH_ready (rs:=[i]) hr (by simp) ?_
 refine AllReadyH.cons ho (fun K hK=>?_) AllReadyH.nil
 rw[if_pos hw];refine wp_store_row ty x y hop g cells hx hy t old hg hi hold h1 ?_;rw[hd]
 exact hK.out _ _ hS (fun _=>h)
end
theorem r0c {P:Program}{o:Oper}{ρ:Operand→Value}{t:TypeId}{parts:Array (Nat×Operand)}{cells:Array Value}{w:World}(ho:o.op = .build t parts)(hc:P.built t (parts.map fun(i,x)=>(i,ρ x)).toList=some cells) :
    (execOp ρ o).run P w = .ok (.value (.agg cells)) w:=by
 unfold execOp;simp only[ho,Sem.run_bind,run_build w t _ cells hc,Result.andThen_ok,Sem.run_pure]
theorem i0e (n:Int)(h0:0≤n)(h1:n<256)(W:World):(convert 5 3 (.int .u8 n)).run Tryz.prog W = .ok (.int .i64 n) W:=by
 rw[run_convert_int W 5 3 .u8 n (by rw[Tryz.underlying5];rfl) Tryz.underlying3]
 have:(Tryz.prog.intKind 3).wrap n=n:=by
  rw[show Tryz.prog.intKind 3 = .i64 by kernel_rfl]
  exact IntWalk.i64_in n (by omega)
 rw[this,show Tryz.prog.intKind 3 = .i64 by kernel_rfl]
end Hx
end Go.Proofs.YtllhobicfclheaaGreatDoor
