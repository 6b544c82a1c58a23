/-
  A part of a proof. No conditions.
-/
import Derived.Test.YtllhobicfclheaaGreatDoorY15
namespace Go.Proofs.YtllhobicfclheaaGreatDoor
open Go.ChangeShapes Go.WideShapes Go.ChangeAt Go.RowKit
set_option linter.unusedVariables false
set_option maxRecDepth 100000
set_option maxHeartbeats 51200000
namespace Q3
open Ms Box Xv
open Xc (idx sl_m sl_l)
open Q1 Hs
open Hx (i0e)
open Nu
open Cur (numL p0d e0d o0c)
open Bk (Bk Sh q0a loadVarK d0a f0a a0a o0a b0a)
theorem r1s {a b:Int}(h:a=b):Ending.returned (.int .u8 a) = .returned (.int .u8 b):=by rw[h]
theorem e1f (n:Int)(h0:0≤n)(h1:n<256)(w:World):Calls Tryz.prog 278 #[.int .u8 n] w fun e w'=>e = .returned (.int .u8 (n%8*32))∧w=w':=by
 refine' qz67
 exact⟨r1s (by omega),rfl⟩
def chk (s:ByteArray):Int×Int:=if s.size<24 then((s.size:Int),2)else if bt s 1%8≠0∨bt s 2≠0 then(1,5)else(0,0)
theorem n0e (s:ByteArray)(w:World)(hs:s.size≤1048576):Calls Tryz.prog 230 #[.string s] w fun e w'=>e = .returned (.tuple #[.int .i64 (chk s).1,.int .i64 (chk s).2])∧w=w':=by
 unfold chk;by_cases h:s.size<24
 · rw[if_pos h];go_in;refine' qz8q
 rw[if_neg h];refine' qzck;have P:=Lib.hid (e1f (bt s 1) (d0b _ _) (o0b _ _));have n1:=d0b s 1;have n2:=d0b s 2;have l1:=o0b s 1;have l2:=o0b s 2;refine' qzcw;generalize bt s 2=y at *;by_cases k:x%8=0;rotate_left
 · rw[if_pos (.inl k)]
   have k':¬x%8*32=0:=by omega
   refine' qz16;refine' qz47;refine' qz8q
 by_cases j:y=0;rotate_left
 · rw[if_pos (.inr j)];rw[k]at P;refine' qz16;refine' qz47;refine' qz8q
 rw[if_neg (by omega)]
 rw[k]at P;subst j;refine' qz16;refine' qz47;refine' qz8q
def cur (s:ByteArray)(a:Int):Array Value:=#[.string s,.int .i64 a,.int .i64 21,.bool false]
theorem w0a (s:ByteArray)(a:Int):((cur s a).all fun x=>x.oneCell')=true:=by simp[cur,Value.oneCell']
theorem shC:Sh Tryz.prog 150 4:=⟨_,Tryz.underlying150,by kernel_rfl⟩
theorem shM:Sh Tryz.prog 29 25:=⟨_,Tryz.underlying29,by kernel_rfl⟩
theorem s0d (s:ByteArray)(h:24≤s.size):(s.extract 3 24).size=21:=by simp;omega
theorem r0e (s:ByteArray)(h:24≤s.size)(a k b:Nat)(hb:b=3+a)(ha:a+k≤21):((s.extract 3 24).data.toList.drop a).take k=(s.data.toList.drop b).take k:=by
 subst hb
 rw[n0a,List.drop_take,List.take_take,List.drop_drop,Nat.min_eq_left (by omega)]
theorem cnew (s:ByteArray)(h:24≤s.size)(w:World):Calls Tryz.prog 213 #[.string (s.extract 3 24)] w fun e w'=>e = .returned (.agg (cur (s.extract 3 24) 0))∧Below w.heap.size w w':=by
 have:=o0c (s.extract 3 24) w (by rw[s0d s h];decide)
 rw[s0d s h]at this;exact this
theorem cnum (s:ByteArray)(h:24≤s.size)(a k b:Nat)(ai ki ci:Int)(hai:ai=a)(hki:ki=k)(hci:ci=(a:Int)+k)(hb:b=3+a)(ha:a+k≤21)(h1:1≤k)(h7:k≤7)(w:World) :
    Calls Tryz.prog 270 #[.agg (cur (s.extract 3 24) ai),.int .i64 ki] w fun e w'=>e = .returned (.tuple #[.int .i64 (numL ((s.data.toList.drop b).take k)),.agg (cur (s.extract 3 24) ci)])∧Below w.heap.size w w':=by
 subst hai hki hci
 have:=p0d (s.extract 3 24) a 21 k w (by rw[s0d s h];decide) (by omega) (by rw[s0d s h];omega) (by omega) h1 h7
 rw[r0e s h a k b hb ha]at this;exact this
theorem ctext (s:ByteArray)(h:24≤s.size)(a k b c:Nat)(ai ki ci:Int)(hai:ai=a)(hki:ki=k)(hci:ci=(a:Int)+k)(hb:b=3+a)(hc:c=b+k)(ha:a+k≤21)(w:World) :
    Calls Tryz.prog 247 #[.agg (cur (s.extract 3 24) ai),.int .i64 ki] w fun e w'=>e = .returned (.tuple #[.string (s.extract b c),.agg (cur (s.extract 3 24) ci)])∧Below w.heap.size w w':=by
 subst hai hki hci
 have:=e0d (s.extract 3 24) a 21 k w (by rw[s0d s h];decide) (by omega) (by rw[s0d s h];omega) (by omega)
 rw[show(s.extract 3 24).extract a (a+k)=s.extract b c from k0a (by rw[n0a,n0a s b c,Nat.add_sub_cancel_left,r0e s h a k b hb ha,hc,Nat.add_sub_cancel_left])]at this
 exact this
theorem one_num (s:ByteArray)(k:Nat)(h:k<s.size):((numL ((s.data.toList.drop k).take 1):Nat):Int)=bt s k:=by
 have e:s.data.toList.drop k=s[k]::s.data.toList.drop (k+1):=by
  rw[List.drop_eq_getElem_cons (by simpa using h)];rfl
 rw[e,←p0h s k h]
 show((numL [s[k]]:Nat):Int)=_
 simp[numL]
structure G (w0 w:World)(mb cb:Nat)(m:M)(c:ByteArray)(a:Int):Prop where
  msg:Bx w mb m
  cu:Bk 150 w cb (cur c a)
  res:Bx w w0.heap.size M.zero
  o1:w0.heap.size<mb
  o2:mb<cb
  bel:Below w0.heap.size w0 w
section
variable {w0 w w':World} {mb cb:Nat} {m m':M} {c:ByteArray} {a:Int}
theorem G.call (g:G w0 w mb cb m c a)(hb:Below w.heap.size w w'):G w0 w' mb cb m c a:=⟨g.msg.below hb,g.cu.below hb,g.res.below hb,g.o1,g.o2,g.bel.trans (hb.mono g.bel.size)⟩
theorem G.set (g:G w0 w mb cb m c a){i:Nat}{v:Value}(hm:m.cells.setIfInBounds i v=m'.cells):G w0 (w.setCell ⟨mb,i,none⟩ v) mb cb m' c a:=
  ⟨g.msg.set hm,g.cu.off (by have:=g.o2;show cb≠mb;omega) _,g.res.off (by have:=g.o1;show w0.heap.size≠mb;omega) _,g.o1,g.o2,g.bel.setCell (p:=⟨mb,i,none⟩) (by have:=g.o1;show w0.heap.size≤mb;omega) _⟩
theorem G.row (g:G w0 w mb cb m c a)(b:Int):G w0 (w.setRow cb (cur c b)) mb cb m c b:=
  ⟨g.msg.row (by have:=g.o2;omega) _,g.cu.put _,g.res.row (by have:=g.o1;have:=g.o2;omega) _,g.o1,g.o2,below_setRow g.bel (by have:=g.o1;have:=g.o2;omega) _⟩
end
theorem q0c (s:ByteArray)(w:World)(h:24≤s.size):Calls Tryz.prog 232 #[.string s] w fun e w'=>e = .returned (.agg (hdM s).cells)∧Below w.heap.size w w':=by
 have i1:=idx s 1 1 rfl (by omega)
 have sl:=sl_m s 3 24 3 24 rfl rfl (by omega) (by omega)
 have HN:=Lib.hid (fun V=>cnew s h V)
 have C0:=Lib.hid (fun V=>cnum s h 0 1 3 0 1 1 rfl rfl (by rfl) rfl (by omega) (by omega) (by omega) V)
 have C1:=Lib.hid (fun V=>cnum s h 1 4 4 1 4 5 rfl rfl (by rfl) rfl (by omega) (by omega) (by omega) V)
 have C2:=Lib.hid (fun V=>ctext s h 5 4 8 12 5 4 9 rfl rfl (by rfl) rfl rfl (by omega) V)
 have C3:=Lib.hid (fun V=>cnum s h 9 4 12 9 4 13 rfl rfl (by rfl) rfl (by omega) (by omega) (by omega) V)
 have C4:=Lib.hid (fun V=>ctext s h 13 4 16 20 13 4 17 rfl rfl (by rfl) rfl rfl (by omega) V)
 have C5:=Lib.hid (fun V=>cnum s h 17 4 20 17 4 21 rfl rfl (by rfl) rfl (by omega) (by omega) (by omega) V)
 have HH:=Lib.hid (show hdM s=({ M.zero with kind:=3,flags:=bt s 1 / 8,hops:=((numL ((s.data.toList.drop 3).take 1):Nat):Int),nonce:=((numL ((s.data.toList.drop 4).take 4):Nat):Int),addr:=s.extract 8 12,seq:=((numL ((s.data.toList.drop 12).take 4):Nat):Int),orig:=s.extract 16 20,seq2:=((numL ((s.data.toList.drop 20).take 4):Nat):Int)}:M)from by unfold hdM num4;rw[one_num s 3 (by omega)])
 have n1:=d0b s 1;have l1:=o0b s 1
 have v1:=i0e (bt s 1 / 8) (by omega) (by omega)
 clear h;generalize hdM s=R at *;generalize s.extract 3 24=c at *;generalize ((numL ((s.data.toList.drop 3).take 1):Nat):Int)=y0 at *;generalize ((numL ((s.data.toList.drop 4).take 4):Nat):Int)=y1 at *;generalize s.extract 8 12=y2 at *;generalize ((numL ((s.data.toList.drop 12).take 4):Nat):Int)=y3 at *;generalize s.extract 16 20=y4 at *;generalize ((numL ((s.data.toList.drop 20).take 4):Nat):Int)=y5 at *;refine' qzcw;refine' qzo;have R0:=Bx.new w M.zero;have bel:=balloc (Below.refl _ w) (.cells M.zero.cells 29);refine' qz14;have A0:=Bx.new W M.zero;have R1:=R0.old (.cells M.zero.cells 29);have bel1:=balloc bel (.cells M.zero.cells 29);rw[hz]at A0
 go_upto_region 2 with(first|(refine d0a rfl 29 _ rfl (M.cells { M.zero with kind:=3,flags:=x / 8}) (by kernel_rfl) ?_)|(change wpList _ _ _ _ _ (W.alloc (.cells M.zero.cells 29));refine e0a (b:=w.heap.size+1) (m:=M.zero) (m':={ M.zero with kind:=3,flags:=x / 8}) rfl _ _ rfl (by first|rfl|(rw[←hz];rfl)) rfl A0 ?_))
 try rw[hz]
 have A1:=A0.put (m':={ M.zero with kind:=3,flags:=x / 8})
 have R2:=R1.row (g:=w.heap.size+1) (by omega) (M.cells { M.zero with kind:=3,flags:=x / 8})
 have bel2:=below_setRow bel1 (g:=w.heap.size+1) (by omega) (M.cells { M.zero with kind:=3,flags:=x / 8})
 clear A0 R1 bel1 R0 bel hz i1 v1;refine' qz5q;have A:=Lib.hid A1;have R2:=Lib.hid R2;clear A1;refine' qzg;refine(HN.out _).mono ?_;refine' qz75;have hlt:w.heap.size+1<w1.heap.size:=(A.out.below hb).lt;have C:=Bk.Bk.new 150 w1 #[.string ⟨#[]⟩,.int .i64 0,.int .i64 0,.bool false]
 go_upto_region 3 with(refine a0a (b:=w1.heap.size) shC rfl _ _ rfl rfl rfl C rfl rfl (w0a c 0) ?_)
 clear C
 have G0:G w ((w1.alloc (.cells #[.string ⟨#[]⟩,.int .i64 0,.int .i64 0,.bool false] 150)).setRow w1.heap.size (cur c 0)) (w.heap.size+1) w1.heap.size { M.zero with kind:=3,flags:=x / 8} c 0:=
  ⟨((A.out.below hb).old _).row (by omega) _,(Bk.Bk.new 150 w1 _).put _,((R2.out.below hb).old _).row (by omega) _,by omega,hlt,below_setRow (balloc (bcall bel2 hb) _) (by omega) _⟩
 refine' qz8o;generalize w1.heap.size=cb at *;clear A R2 hb bel2 sl HN;have HG:=Lib.hid G0;clear G0;refine' qzcy;refine(C0.out _).mono ?_;rintro e V0 ⟨rfl,hb⟩;have G0:=HG.out.call hb;clear HG C0 hb;have d:=G0.msg.cs.c16;have fd:=G0.msg.frozen 16
 have G1:G w (V0.setCell ⟨w.heap.size+1,16,none⟩ (.int .i64 y0)) (w.heap.size+1) cb { M.zero with kind:=3,flags:=x / 8,hops:=y0} c 0:=G0.set (m':={ M.zero with kind:=3,flags:=x / 8,hops:=y0}) (i:=16) rfl
 refine' qz8b
 go_upto_region 4 with(first|(refine a0a (b:=cb) shC rfl _ _ rfl rfl rfl HG.out.cu rfl rfl (w0a c 1) ?_))
 have HG:=Lib.hid (HG.out.row 1);clear d fd;change Code.wp _ _ _ _ ((V0.setCell ⟨w.heap.size+1,16,none⟩ (.int .i64 y0)).setRow cb (cur c 1));generalize (V0.setCell ⟨w.heap.size+1,16,none⟩ (.int .i64 y0)).setRow cb (cur c 1)=W0 at *;refine' qzcy;refine(C1.out _).mono ?_;rintro e V1 ⟨rfl,hb⟩;have G0:=HG.out.call hb;clear HG C1 hb;have d:=G0.msg.cs.c17;have fd:=G0.msg.frozen 17
 have G1:G w (V1.setCell ⟨w.heap.size+1,17,none⟩ (.int .i64 y1)) (w.heap.size+1) cb { M.zero with kind:=3,flags:=x / 8,hops:=y0,nonce:=y1} c 1:=G0.set (m':={ M.zero with kind:=3,flags:=x / 8,hops:=y0,nonce:=y1}) (i:=17) rfl
 refine' qz8b
 go_upto_region 5 with(first|(refine a0a (b:=cb) shC rfl _ _ rfl rfl rfl HG.out.cu rfl rfl (w0a c 5) ?_))
 have HG:=Lib.hid (HG.out.row 5);clear d fd;change Code.wp _ _ _ _ ((V1.setCell ⟨w.heap.size+1,17,none⟩ (.int .i64 y1)).setRow cb (cur c 5));generalize (V1.setCell ⟨w.heap.size+1,17,none⟩ (.int .i64 y1)).setRow cb (cur c 5)=W1 at *;refine' qzcy;refine(C2.out _).mono ?_;rintro e V2 ⟨rfl,hb⟩;have G0:=HG.out.call hb;clear HG C2 hb;have d:=G0.msg.cs.c19;have fd:=G0.msg.frozen 19
 have G1:G w (V2.setCell ⟨w.heap.size+1,19,none⟩ (.string y2)) (w.heap.size+1) cb { M.zero with kind:=3,flags:=x / 8,hops:=y0,nonce:=y1,addr:=y2} c 5:=G0.set (m':={ M.zero with kind:=3,flags:=x / 8,hops:=y0,nonce:=y1,addr:=y2}) (i:=19) rfl
 refine' qz8b
 go_upto_region 6 with(first|(refine a0a (b:=cb) shC rfl _ _ rfl rfl rfl HG.out.cu rfl rfl (w0a c 9) ?_))
 have HG:=Lib.hid (HG.out.row 9);clear d fd;change Code.wp _ _ _ _ ((V2.setCell ⟨w.heap.size+1,19,none⟩ (.string y2)).setRow cb (cur c 9));generalize (V2.setCell ⟨w.heap.size+1,19,none⟩ (.string y2)).setRow cb (cur c 9)=W2 at *;refine' qzcy;refine(C3.out _).mono ?_;rintro e V3 ⟨rfl,hb⟩;have G0:=HG.out.call hb;clear HG C3 hb;have d:=G0.msg.cs.c12;have fd:=G0.msg.frozen 12
 have G1:G w (V3.setCell ⟨w.heap.size+1,12,none⟩ (.int .i64 y3)) (w.heap.size+1) cb { M.zero with kind:=3,flags:=x / 8,hops:=y0,nonce:=y1,addr:=y2,seq:=y3} c 9:=G0.set (m':={ M.zero with kind:=3,flags:=x / 8,hops:=y0,nonce:=y1,addr:=y2,seq:=y3}) (i:=12) rfl
 refine' qz8b
 go_upto_region 7 with(first|(refine a0a (b:=cb) shC rfl _ _ rfl rfl rfl HG.out.cu rfl rfl (w0a c 13) ?_))
 have HG:=Lib.hid (HG.out.row 13);clear d fd;change Code.wp _ _ _ _ ((V3.setCell ⟨w.heap.size+1,12,none⟩ (.int .i64 y3)).setRow cb (cur c 13));generalize (V3.setCell ⟨w.heap.size+1,12,none⟩ (.int .i64 y3)).setRow cb (cur c 13)=W3 at *;refine' qzcy;refine(C4.out _).mono ?_;rintro e V4 ⟨rfl,hb⟩;have G0:=HG.out.call hb;clear HG C4 hb;have d:=G0.msg.cs.c20;have fd:=G0.msg.frozen 20
 have G1:G w (V4.setCell ⟨w.heap.size+1,20,none⟩ (.string y4)) (w.heap.size+1) cb { M.zero with kind:=3,flags:=x / 8,hops:=y0,nonce:=y1,addr:=y2,seq:=y3,orig:=y4} c 13:=G0.set (m':={ M.zero with kind:=3,flags:=x / 8,hops:=y0,nonce:=y1,addr:=y2,seq:=y3,orig:=y4}) (i:=20) rfl
 refine' qz8b
 go_upto_region 8 with(first|(refine a0a (b:=cb) shC rfl _ _ rfl rfl rfl HG.out.cu rfl rfl (w0a c 17) ?_))
 have HG:=Lib.hid (HG.out.row 17);clear d fd;change Code.wp _ _ _ _ ((V4.setCell ⟨w.heap.size+1,20,none⟩ (.string y4)).setRow cb (cur c 17));generalize (V4.setCell ⟨w.heap.size+1,20,none⟩ (.string y4)).setRow cb (cur c 17)=W4 at *;refine' qzcy;refine(C5.out _).mono ?_;rintro e V5 ⟨rfl,hb⟩;have G0:=HG.out.call hb;clear HG C5 hb;have d:=G0.msg.cs.c13;have fd:=G0.msg.frozen 13
 have G1:G w (V5.setCell ⟨w.heap.size+1,13,none⟩ (.int .i64 y5)) (w.heap.size+1) cb { M.zero with kind:=3,flags:=x / 8,hops:=y0,nonce:=y1,addr:=y2,seq:=y3,orig:=y4,seq2:=y5} c 17:=G0.set (m':={ M.zero with kind:=3,flags:=x / 8,hops:=y0,nonce:=y1,addr:=y2,seq:=y3,orig:=y4,seq2:=y5}) (i:=13) rfl
 refine' qz8b
 go_upto_region 9 with fail
 clear d fd;generalize V5.setCell ⟨w.heap.size+1,13,none⟩ (.int .i64 y5)=W5 at *;rw[←HH.out]at HG
 go_wp2_with (first|(refine j0a (b:=w.heap.size+1) (m:=R) rfl _ rfl rfl HG.out.msg ?_)|(refine e0a (b:=w.heap.size) (m':=R) rfl _ _ rfl rfl rfl HG.out.res ?_))
 refine' qzdj
end Q3
namespace Hy
open Ms
section
variable {P:Program} {ops:Array Oper} {Q:Exit→Act→World→Prop} {md:Region.Mode} {S:World→Prop}
theorem H.one {i:Nat}{o:Oper}{fuel:Nat}{listed:Array Bool}{a:Act}{w:World}
    (ho:ops[i]?=some o) (hw:Region.wanted o (yielded ops a.tmps)=true) (hr:Region.ready md ops listed = [i])
    (h:∀ K:Act→World→Prop,Hid (∀ a' w',S w'→wpAnyH P md ops Q S fuel (listed.setIfInBounds i true) a' w'→K a' w')→Oper.wp P o a w K Q):wpAnyH P md ops Q S (fuel+1) listed a w:=by
 refine wpAnyH_ready (rs:=[i]) hr (by simp) ?_
 refine AllReadyH.cons ho (fun K hK=>?_) AllReadyH.nil
 rw[if_pos hw]
 exact h K (Lib.hid (fun a' w' hS hW=>hK.out a' w' hS (fun _=>hW)))
theorem d1d {o:Oper}{a:Act}{w w':World}{K:Act→World→Prop}{d:Nat}{v:Value}(hd:o.dst=some d)(hy:(execOp a.eval o).run P w = .ok (.value v) w')(h:K (a.put (some d) v) w'):Oper.wp P o a w K Q:=by
 unfold Oper.wp;rw[hy];simp only[Oper.upon,hd];exact h
end
end Hy
namespace Ds
open Ms
open Bk (Bk Sh)
open Hy (H.one)
def cellsD (x:El):Array Value:=#[.string x.1,.int .i64 x.2]
theorem oneD (x:El):((cellsD x).all fun x=>x.oneCell')=true:=by simp[cellsD,Value.oneCell']
theorem shD:Sh Tryz.prog 48 2:=⟨_,Tryz.underlying48,by kernel_rfl⟩
theorem w0i (x:El)(w:World):(Instr.buildSlice 26 1 #[(0,.agg (cellsD x))]).run Tryz.prog w = .ok (.slice (some ⟨w.heap.size,0,none⟩) 1 1) (w.alloc (.cells (cellsD x) 48)):=by
 kernel_rfl
theorem c0h {o:Oper}{ρ:Operand→Value}{x:Operand}{m:El}{w:World}(ho:o.op = .buildSlice 26 1 #[(0,x)])(hx:ρ x = .agg (cellsD m)) :
    (execOp ρ o).run Tryz.prog w = .ok (.value (.slice (some ⟨w.heap.size,0,none⟩) 1 1)) (w.alloc (.cells (cellsD m) 48)):=by
 have e:((#[(0,x)]:Array (Nat×Operand)).map fun(i,x)=>(i,ρ x)) = #[(0,.agg (cellsD m))]:=by simp[hx]
 refine' qz74
theorem j0c {ops:Array Oper}{rest:List Oper}{o:Oper}{a:Act}{w:World}{Q:Exit→Act→World→Prop}(hgd:o.guard=none)(x:Operand)(ho:o.op = .buildSlice 26 1 #[(0,x)])
    {m:El} (hx:a.eval x = .agg (cellsD m)) (h:wpList Tryz.prog ops Q rest (a.put o.dst (.slice (some ⟨w.heap.size,0,none⟩) 1 1)) (w.alloc (.cells (cellsD m) 48))):wpList Tryz.prog ops Q (o::rest) a w:=
  wpList_plain hgd fun K hK=>by
    unfold Oper.wp
    rw[c0h ho hx]
    exact hK _ _ h
theorem p0b (g o j:Nat):(⟨g,o,none⟩:Addr).add j=⟨g,o+j,none⟩:=by
 refine' qz9j
def rowD (l:List El):List Value:=l.flatMap fun x=>(cellsD x).toList
theorem t1d (l:List El)(m:El):rowD (l ++ [m])=rowD l++(cellsD m).toList:=by simp[rowD]
theorem f1c:∀ (l:List El) (i j:Nat) (h:i<l.length),j<2→(rowD l)[i*2+j]?=((cellsD l[i]).toList)[j]?
  | [],i,j,h,_=>absurd h (by simp)
  | m::l,0,j,h,hj=>by
    have:rowD (m::l)=(cellsD m).toList++rowD l:=by simp[rowD]
    rw[this,Nat.zero_mul,Nat.zero_add,List.getElem?_append_left (by show j<(cellsD m).toList.length;exact hj)]
    rfl
  | m::l,i+1,j,h,hj=>by
    have e:rowD (m::l)=(cellsD m).toList++rowD l:=by simp[rowD]
    have hl:(cellsD m).toList.length=2:=rfl
    rw[e,List.getElem?_append_right (by rw[hl];omega),hl,show(i+1)*2+j - 2=i*2+j by omega,f1c l i j (by simpa using h) hj]
    rfl
theorem infoD:∃ i,Tryz.prog.info? 48=some i∧i.zero=some (.agg #[.string ByteArray.empty,.int .i64 0])∧i.size=2∧i.bytes≤4096:=by
 have h:(Tryz.prog.info? 48).map (fun i=>(i.zero,i.size,decide (i.bytes≤4096)))=some (some (.agg #[.string ByteArray.empty,.int .i64 0]),2,true):=by kernel_rfl
 refine' qz65;exact⟨i,hi,hz⟩
def Lst (B:Nat)(w:World)(v:Value)(l:List El):Prop:=w.ownsRow B 48 2 v l.length (rowD l)
theorem Lst.nil (B:Nat)(w:World):Lst B w (.slice none 0 0) []:=World.ownsRow_nil w B _ 2
theorem Lst.below {B:Nat}{w w':World}{v:Value}{l:List El}(h:Lst B w v l)(hb:Below w.heap.size w w'):Lst B w' v l:=by
 refine' qz1h
theorem Lst.slice {B:Nat}{w:World}{v:Value}{l:List El}(h:Lst B w v l):∃ a c,v = .slice a l.length c:=by
 refine' qzd4
theorem Lst.row {B:Nat}{w:World}{a:Option Addr}{c:Nat}{l:List El}(h:Lst B w (.slice a l.length c) l):DRow w a l:=by
 intro i hi
 rcases h.2 with⟨_,h0⟩|⟨g,cap,cur,hv,hb,hg,_⟩
 · omega
 · simp at hv;obtain⟨rfl,rfl⟩:=hv
   have hat:∀ j v,j<2→((cellsD l[i]).toList)[j]?=some v→w.cell? (((⟨g,0,none⟩:Addr).add (i*2)).add j)=some v:=fun j v hj hv=>by
    have:=World.ownsRow.cells h (g:=g) rfl (i*2+j) v (by rw[f1c l i j hi hj];exact hv)
    rw[p0b]at this;rw[p0b,p0b,Nat.add_assoc];exact this
   exact⟨⟨g,0,none⟩,rfl,(Array.getElem?_eq_some_iff.1 hg).1,hat 0 _ (by decide) rfl,hat 1 _ (by decide) rfl⟩
theorem f0c {B g:Nat}{w:World}{v:Value}{l:List El}(h:Lst B w v l)(hg:g<B)(cs:Array Value):Lst B (w.setRow g cs) v l:=by
 refine' qz2z
theorem z0a (m:El)(w:World):∀ j u,((cellsD m).toList)[j]?=some u→(w.alloc (.cells (cellsD m) 48)).cell? ((⟨w.heap.size,0,none⟩:Addr).add j)=some u:=by
 intro j u hu
 have:=(Bk.Bk.new 48 w (cellsD m)).cell j u (by simpa using hu)
 rw[p0b,Nat.zero_add];exact this
theorem a0t {ops:Array Oper}{rest:List Oper}{o:Oper}{a:Act}{w:World}{Q:Exit→Act→World→Prop}(hgd:o.guard=none)(x y:Operand)(ho:o.op = .makeSlice 26 x y)
    (B n:Nat) (kl kc:IntKind) (C:Int) (hx:a.eval x = .int kl 0) (hy:a.eval y = .int kc C) (hC:C=(n:Int)) (hn:n≤100000) (hB:B≤w.heap.size)
    (h:∀ w',Lst B w' (.slice (some ⟨w.heap.size,0,none⟩) 0 n) []→Below B w w'→w.grownBy w' none→wpList Tryz.prog ops Q rest (a.put o.dst (.slice (some ⟨w.heap.size,0,none⟩) 0 n)) w'):wpList Tryz.prog ops Q (o::rest) a w:=by
 obtain⟨i0,hi,hz,hsz,hby⟩:=infoD
 refine wpList_make_own w hgd x y 26 ho B 48 i0 (.agg #[.string ByteArray.empty,.int .i64 0]) 2 Tryz.underlying26 hi hz hsz kl kc C n hx hy hC ?_ (by unfold maxLen;omega) hB ?_
 · have:i0.bytes*n≤4096*100000:=Nat.mul_le_mul hby hn;omega
 · intro w' h1 h2
   exact h w' h1 ((Below.refl B w).grown h2 hB (fun k hk=>by cases hk)) h2
theorem a0m {o:Oper}{a:Act}{w:World}{Q:Exit→Act→World→Prop}{K:Act→World→Prop}(s x:Operand)
    (ho:o.op = .call { callee := .builtin .append,args:=#[s,x],argTypes:=#[26,26]}) (B:Nat) (v:Value) (l:List El) (m:El) (g c:Nat)
    (hs:a.eval s=v) (hown:Lst B w v l) (hx:a.eval x = .slice (some ⟨g,0,none⟩) 1 c) (hm:∀ j u,((cellsD m).toList)[j]?=some u→w.cell? ((⟨g,0,none⟩:Addr).add j)=some u)
    (hl:l.length≤100000) (hB:B≤w.heap.size)
    (h:∀ v' w',Lst B w' v' (l ++ [m])→w.grownBy w' v.ownBlock→Below B w w'→K (a.put o.dst v') w'):Oper.wp Tryz.prog o a w K Q:=by
 obtain⟨i0,hi,hz,hsz,hby⟩:=infoD
 refine wp_append_own w s x 26 ho B 48 i0 (.agg #[.string ByteArray.empty,.int .i64 0]) 2 i0.bytes Tryz.underlying26 hi hz hsz rfl rfl (by decide) v l.length (rowD l) hs hown ⟨g,0,none⟩ 1 c (cellsD m).toList hx rfl hm ?_ (by unfold maxLen;omega) ?_ hB ?_
 · intro u hu;have:=oneD m;refine' qzb1
 · have:(l.length+1)*i0.bytes≤100001*4096:=Nat.mul_le_mul (by omega) hby
   omega
 · refine' qz5c;unfold Lst;rw[t1d,List.length_append];exact h2
theorem f0d {ops:Array Oper}{rest:List Oper}{o:Oper}{a:Act}{w:World}{Q:Exit→Act→World→Prop}(hgd:o.guard=none)(s x:Operand)
    (ho:o.op = .call { callee := .builtin .append,args:=#[s,x],argTypes:=#[26,26]}) (B:Nat) (v:Value) (l:List El) (m:El) (g c:Nat)
    (hs:a.eval s=v) (hown:Lst B w v l) (hx:a.eval x = .slice (some ⟨g,0,none⟩) 1 c) (hm:∀ j u,((cellsD m).toList)[j]?=some u→w.cell? ((⟨g,0,none⟩:Addr).add j)=some u)
    (hl:l.length≤100000) (hB:B≤w.heap.size)
    (h:∀ v' w',Lst B w' v' (l ++ [m])→Below B w w'→w.heap.size≤w'.heap.size→wpList Tryz.prog ops Q rest (a.put o.dst v') w'):wpList Tryz.prog ops Q (o::rest) a w:=
  wpList_plain hgd fun K hK=>a0m s x ho B v l m g c hs hown hx hm hl hB fun v' w' h1 h2 h3=>hK _ _ (h v' w' h1 h3 h2.size)
section
variable {ops:Array Oper} {Q:Exit→Act→World→Prop} {md:Region.Mode} {S:World→Prop}
end
end Ds
namespace Am
open Ms Box
open Xc (t0a)
theorem f0c {B g:Nat}{w:World}{v:Value}{l:List El}(h:Sx.Lst B w v l)(hg:g<B)(cs:Array Value):Sx.Lst B (w.setRow g cs) v l:=by
 refine' qz2z
theorem s0e {B B':Nat}{w:World}{v:Value}{l:List El}(h:Sx.Lst B w v l)(hB:B'≤B):Sx.Lst B' w v l:=by
 refine' qz3f
theorem f0x {B B':Nat}{w:World}{v:Value}{l:List El}(h:Ds.Lst B w v l)(hB:B'≤B):Ds.Lst B' w v l:=by
 refine' qz3f
def AnsM (p:M×Int×Int)(w:World)(e:Ending)(w':World):Prop:=
  ∃ la lc sa sc,e = .returned (.tuple #[.agg (M.cells { p.1 with la:=la,lc:=lc,sa:=sa,sc:=sc}),.int .i64 p.2.1,.int .i64 p.2.2])∧
    Ds.Lst w.heap.size w' (.slice la p.1.ll.length lc) p.1.ll∧Sx.Lst w.heap.size w' (.slice sa p.1.sl.length sc) p.1.sl∧Below w.heap.size w w'
theorem AnsM.no {p:M×Int×Int}{w w':World}{c d:Int}(h:p=(M.zero,c,d))(hb:Below w.heap.size w w'):AnsM p w (.returned (.tuple #[.agg M.zero.cells,.int .i64 c,.int .i64 d])) w':=by
 subst h;exact⟨none,0,none,0,rfl,Ds.Lst.nil _ _,Sx.Lst.nil _ _,hb⟩
theorem AnsM.both {p:M×Int×Int}{w w':World}{r:M}{d a:Option Addr}{l:List El}{e c B B':Nat}(h:p=({ r with sl:=l},0,0))(hd:Ds.Lst B w' (.slice d r.ll.length e) r.ll)(hB:w.heap.size≤B)
    (hl:Sx.Lst B' w' (.slice a l.length c) l) (hB':w.heap.size≤B') (hb:Below w.heap.size w w') :
    AnsM p w (.returned (.tuple #[.agg (M.cells { r with la:=d,lc:=e,sa:=a,sl:=l,sc:=c}),.int .i64 0,.int .i64 0])) w':=by
 subst h;exact⟨d,e,a,c,rfl,f0x hd hB,s0e hl hB',hb⟩
theorem AnsM.subs {p:M×Int×Int}{w w':World}{r:M}{a:Option Addr}{l:List El}{c B:Nat}(h:p=({ r with sl:=l},0,0))(h1:r.la=none)(h2:r.lc=0)(h3:r.ll = [])(hl:Sx.Lst B w' (.slice a l.length c) l)(hB:w.heap.size≤B)(hb:Below w.heap.size w w') :
    AnsM p w (.returned (.tuple #[.agg (M.cells { r with sa:=a,sl:=l,sc:=c}),.int .i64 0,.int .i64 0])) w':=by
 subst h;refine⟨none,0,a,c,?_,?_,s0e hl hB,hb⟩
 · rw[←h1,←h2]
 · show Ds.Lst w.heap.size w' (.slice none r.ll.length 0) r.ll
   rw[h3];exact Ds.Lst.nil _ _
theorem ret3 {fn:Func}{p q r:Nat}(h:fn.results = #[.cell p 29,.tmp q,.tmp r])(tmps:Array Value)(w:World)(g:Nat)(m:M)
    (hp:tmps.getD p undef = .pointer (some ⟨g,0,none⟩)) (hm:Bx w g m) (v:Value) (hv:tmps.getD q undef=v) (x:Value) (hx:tmps.getD r undef=x) :
    (results fn tmps).run Tryz.prog w = .ok (.tuple #[.agg m.cells,v,x]) w:=t0a h tmps w g _ hp (Own.loadVarM hm) v hv x hx
structure Fs (w W:World)(g:Nat)(f:M):Prop where
  m:Bx W g f
  i:f.In W
  bel:Below w.heap.size w W
theorem Fs.call {w W w':World}{g:Nat}{f:M}(h:Fs w W g f)(hb:Below W.heap.size W w'):Fs w w' g f:=⟨h.m.below hb,h.i.below hb,h.bel.trans (hb.mono h.bel.size)⟩
theorem Fs.new (w:World)(m:M)(hm:m.In w):Fs w (w.alloc (.cells m.cells 29)) w.heap.size m:=⟨Bx.new w m,hm.below (balloc (Below.refl _ w) _),balloc (Below.refl _ w) _⟩
def Pl (n m:M):Prop:=n={ m with la:=n.la,lc:=n.lc,sa:=n.sa,sc:=n.sc}
theorem Pl.same {n n' m m':M}(h:Pl n m)(h':Pl n' m'):M.same n n'=M.same m m':=by
 rw[show n=_ from h,show n'=_ from h']
 rfl
theorem Pl.refl (m:M):Pl m m:=rfl
theorem AnsM.at {p:M×Int×Int}{w:World}{e:Ending}{w':World}(h:AnsM p w e w')(hd:p.1.ll.length≤1048576)(hs:p.1.sl.length≤1048576) :
    ∃ n:M,e = .returned (.tuple #[.agg n.cells,.int .i64 p.2.1,.int .i64 p.2.2])∧n.In w'∧Pl n p.1∧Below w.heap.size w w':=by
 obtain⟨la,lc,sa,sc,h1,h2,h3,h4⟩:=h;exact⟨_,h1,⟨h2.row,h3.row,hd,hs⟩,rfl,h4⟩
theorem AnsM.boxed {p:M×Int×Int}{w W w1:World}{e:Ending}(h:AnsM p W e w1)(hz:w.heap.size<W.heap.size)(hb:Below w.heap.size w W) :
    ∃ n:M,e = .returned (.tuple #[.agg n.cells,.int .i64 p.2.1,.int .i64 p.2.2])∧Below W.heap.size W w1∧AnsM p w e (w1.setRow w.heap.size n.cells):=by
 obtain⟨la,lc,sa,sc,h1,h2,h3,h4⟩:=h;exact⟨_,h1,h4,la,lc,sa,sc,h1,f0x (Ds.f0c h2 hz _) (Nat.le_of_lt hz),s0e (f0c h3 hz _) (Nat.le_of_lt hz),below_setRow (hb.trans (h4.mono hb.size)) (Nat.le_refl _) _⟩
end Am
namespace Q4
open Ms Box Xv
open Xc (idx sl_m sl_l)
open Am Q1 Q3 Hs
open Hx (i0e)
open Nu
open Cur (numL)
open Bk (d0a b0a)
theorem f1f {s:ByteArray}(h:s.size<24):chk s=((s.size:Int),2):=by unfold chk;rw[if_pos h]
theorem o1g {s:ByteArray}(h:¬s.size<24)(k:bt s 1%8≠0∨bt s 2≠0):chk s=(1,5):=by unfold chk;rw[if_neg h,if_pos k]
theorem w1q {s:ByteArray}(h:¬s.size<24)(k:¬(bt s 1%8≠0∨bt s 2≠0)):chk s=(0,0):=by unfold chk;rw[if_neg h,if_neg k]
theorem o0h (s:ByteArray)(w:World)(hs:s.size≤200000):Calls Tryz.prog 173 #[.string s] w (AnsM (outQ s) w):=by
 have HC:=Lib.hid (fun V=>n0e s V (by omega))
 by_cases h:s.size<24
 · have HY:=Lib.hid (x0e h);rw[f1f h]at HC;clear h;refine' qzb9;refine' qzay;refine' qzb2;exact bodyPost_ret (v := .tuple #[.agg M.zero.cells,.int .i64 (s.size:Int),.int .i64 2]) (ret3 rfl _ _ w.heap.size M.zero rfl (R0.out.put (m':=M.zero)) (.int .i64 (s.size:Int)) rfl (.int .i64 2) rfl) rfl (AnsM.no HY.out (below_setRow bel.out (Nat.le_refl _) _))
 by_cases k:bt s 1%8≠0∨bt s 2≠0
 · have HY:=Lib.hid (t0r h k);rw[o1g h k]at HC;clear h k;refine' qzb9;refine' qzay;refine' qzb2;exact bodyPost_ret (v := .tuple #[.agg M.zero.cells,.int .i64 1,.int .i64 5]) (ret3 rfl _ _ w.heap.size M.zero rfl (R0.out.put (m':=M.zero)) (.int .i64 1) rfl (.int .i64 5) rfl) rfl (AnsM.no HY.out (below_setRow bel.out (Nat.le_refl _) _))
 rw[w1q h k]at HC
 have PG:=Lib.hid (fun V=>Xc.c0e (s.extract 24 s.size) V (by simp;omega))
 have PH:=Lib.hid (fun V=>q0c s V (by omega))
 have sl:=sl_l s 24 24 s.size rfl (by omega) rfl
 have HO:=Lib.hid (show(outX (s.extract 24 s.size)).2.1≤200000∧0≤(outX (s.extract 24 s.size)).2.1 by
  rcases Xv.out_cases (s.extract 24 s.size)with⟨l,h1,h2,h3⟩|⟨l,r,h1,h2,h3,h4,h5⟩
  ·
   rw[h3];exact⟨by show(0:Int)≤200000;decide,Int.le_refl _⟩
  ·
   rw[h5];have:=congrArg List.length h2;rw[List.length_append,c0a]at this;simp at this;simp only[]
   omega)
 obtain⟨⟨l,i,x⟩,hX⟩:∃ p,outX (s.extract 24 s.size)=p:=⟨_,rfl⟩;rw[hX]at PG HO;obtain⟨hi,hi0⟩:=HO.out;simp only[]at hi hi0;clear HO;by_cases hx:x=0;rotate_left
 · have HY:=Lib.hid (r0f h k hX hx);clear h k hX PH;refine' qzb9;refine' qzay;refine' qz2k;refine' qz7a;rintro e w1 ⟨a,c,rfl,hr,hb⟩;refine' qz37;clear hb R0 bel hr PG HC sl
   go_wp2_with (first|(refine d0a rfl 29 _ rfl (M.cells M.zero) (by kernel_rfl) ?_)|(refine e0a (b:=w.heap.size) (m:=M.zero) (m':=M.zero) rfl _ _ rfl rfl rfl R1.out ?_))
   exact bodyPost_ret (v := .tuple #[.agg M.zero.cells,.int .i64 (24+i),.int .i64 x]) (ret3 rfl _ _ w.heap.size M.zero rfl (R1.out.put (m':=M.zero)) (.int .i64 (24+i)) rfl (.int .i64 x) rfl) rfl (AnsM.no HY.out (below_setRow bel1.out (Nat.le_refl _) _))
 subst hx;have HY:=Lib.hid (u0a h k hX);clear h k hX
 have HR:=Lib.hid (show(hdM s).la=none∧(hdM s).lc=0∧(hdM s).ll = []from⟨rfl,rfl,rfl⟩)
 generalize hdM s=r at *;refine' qzb9;refine' qzay;refine' qz2k;refine' qz7a;rintro e w1 ⟨a,c,rfl,hr,hb⟩;refine' qz37;have HL:=Lib.hid hr;clear hb R0 bel hr PG HC sl;refine' qzg;refine(PH.out _).mono ?_;refine' qz4b;refine' qzba;refine' qz7;clear hb R1 bel1 PH
 go_upto_region 8 with(refine e0a (b:=w2.heap.size) (m:=M.zero) (m':=r) rfl _ _ rfl rfl rfl (Bx.new w2 M.zero) ?_)
 change Code.wp _ _ _ _ ((w2.alloc (.cells M.zero.cells 29)).setRow w2.heap.size r.cells);refine' qz33;have R3:=Lib.hid (R2.out.old (.cells r.cells 29));have bel3:=Lib.hid (balloc bel2.out (.cells r.cells 29));have HL:=Lib.hid HL.out;have b2:=balloc (Below.refl w2.heap.size w2) (.cells r.cells 29);have X3:=Bx.new w2 r;have hlt:w.heap.size<w2.heap.size:=R2.out.lt;clear R2 bel2;generalize w2.alloc (.cells r.cells 29)=V at *
 have HL:=Lib.hid (fun V2 (h:Below w2.heap.size w2 V2)=>HL.out.below h)
 generalize w2.heap.size=g at *;have d:=X3.cs.c24;have fd:=X3.frozen 24;have X3:=Lib.hid X3
 go_upto_region 9 with fail
 have X4:=Lib.hid (X3.out.set (i:=24) (v := .slice a l.length c) (m':={ r with sa:=a,sl:=l,sc:=c}) rfl)
 refine' qzaf;clear d fd X3 R3 bel3;have HL:=Lib.hid (HL.out _ (b2.setCell (p:=⟨g,24,none⟩) (Nat.le_refl g) (.slice a l.length c)));clear b2;generalize V.setCell ⟨g,24,none⟩ (.slice a l.length c)=V2 at *;refine' qz35
end Q4
namespace B3
open Ms
theorem l0g {m:M}(hk:m.kind=3):Bare.bareN m=Q1.bare m:=by
 unfold Bare.bareN Q1.bare;rw[(Bare.is_3 hk).1,(Bare.is_3 hk).2];rfl
theorem z0c (m:M)(w:World)(hk:m.kind=3)(hm:m.In w) :
    Calls Tryz.prog 77 #[.agg m.cells] w fun e w'=>e = .returned (.bool (Q1.bare m))∧Below w.heap.size w w':=by
 rw[←l0g hk];exact Bare.z0c m w hm
end B3
end Go.Proofs.YtllhobicfclheaaGreatDoor
namespace Go.Proofs
open Go.Shelf
def Tryz.lays169_ren:Go.Shelf.Ren:=⟨fun|169=>194|n=>n,fun|70=>129|9=>9|0=>0|72=>131|37=>96|127=>178|3=>3|5=>5|n=>n,fun|n=>n⟩
theorem Tryz.lays169:Go.Proofs.Lays.n169 Tryz.prog Tryz.lays169_ren:={
  mixed:=by kernel_rfl
  f169:=Tryz.func194.trans (congrArg some (by kernel_rfl))
  t0:=Tryz.underlying0
  a0:=Tryz.isAgg0
  z0:=Tryz.sizeOf0
  v0:=Tryz.zeroValue0
  t3:=Tryz.underlying3
  a3:=Tryz.isAgg3
  z3:=Tryz.sizeOf3
  v3:=Tryz.zeroValue3
  t9:=Tryz.underlying9
  a9:=Tryz.isAgg9
  z9:=Tryz.sizeOf9
  v9:=Tryz.zeroValue9
  t37:=Tryz.underlying96
  a37:=Tryz.isAgg96
  z37:=Tryz.sizeOf96
  v37:=Tryz.zeroValue96
  t70:=Tryz.underlying129
  a70:=Tryz.isAgg129
  z70:=Tryz.sizeOf129
  v70:=Tryz.zeroValue129
  t72:=Tryz.underlying131
  a72:=Tryz.isAgg131
  z72:=Tryz.sizeOf131
  v72:=Tryz.zeroValue131
  t127:=Tryz.underlying178
  a127:=Tryz.isAgg178
  z127:=Tryz.sizeOf178
  v127:=Tryz.zeroValue178}
theorem Tryz.Builder_Extra_169:Builder.Extra Tryz.prog Tryz.lays169_ren:={
  sizeBuilder:=by kernel_rfl
  liesBuilder:=by kernel_rfl
  t5:=Tryz.underlying5
  a5:=Tryz.isAgg5
  z5:=Tryz.sizeOf5
  v5:=Tryz.zeroValue5
  infoByte:=by kernel_rfl
  cellsByte:=by kernel_rfl
  sizeByte:=by kernel_rfl
  neB5:=by decide}
open Go.RowKit in
theorem Tryz.Builder_String_any (B b:Nat)(l:List UInt8)(w:World)(h:Lib.IsBuilder 131 5 B b (Lib.byteCells l) w)(hBw:B≤w.heap.size) :
    Calls Tryz.prog 194 #[.pointer (some ⟨b,0,none⟩)] w fun e w'=>e = .returned (.string ⟨l.toArray⟩)∧Below B w w':=Any.Builder_String_any Tryz.lays169 Tryz.Builder_Extra_169 B b l w h hBw
def Tryz.lays165_ren:Go.Shelf.Ren:=⟨fun|165=>283|240=>257|241=>313|276=>301|277=>339|n=>n,fun|70=>129|3=>3|0=>0|4=>4|9=>9|20=>20|72=>131|37=>96|164=>220|5=>5|n=>n,fun|n=>n⟩
theorem Tryz.lays165:Go.Proofs.Lays.n165 Tryz.prog Tryz.lays165_ren:={
  mixed:=by kernel_rfl
  f165:=Tryz.func283.trans (congrArg some (by kernel_rfl))
  f240:=Tryz.func257.trans (congrArg some (by kernel_rfl))
  f241:=Tryz.func313.trans (congrArg some (by kernel_rfl))
  f276:=Tryz.func301.trans (congrArg some (by kernel_rfl))
  f277:=Tryz.func339.trans (congrArg some (by kernel_rfl))
  t0:=Tryz.underlying0
  a0:=Tryz.isAgg0
  z0:=Tryz.sizeOf0
  v0:=Tryz.zeroValue0
  t3:=Tryz.underlying3
  a3:=Tryz.isAgg3
  z3:=Tryz.sizeOf3
  v3:=Tryz.zeroValue3
  t4:=Tryz.underlying4
  a4:=Tryz.isAgg4
  z4:=Tryz.sizeOf4
  v4:=Tryz.zeroValue4
  t9:=Tryz.underlying9
  a9:=Tryz.isAgg9
  z9:=Tryz.sizeOf9
  v9:=Tryz.zeroValue9
  t20:=Tryz.underlying20
  a20:=Tryz.isAgg20
  z20:=Tryz.sizeOf20
  v20:=Tryz.zeroValue20
  t37:=Tryz.underlying96
  a37:=Tryz.isAgg96
  z37:=Tryz.sizeOf96
  v37:=Tryz.zeroValue96
  t70:=Tryz.underlying129
  a70:=Tryz.isAgg129
  z70:=Tryz.sizeOf129
  v70:=Tryz.zeroValue129
  t72:=Tryz.underlying131
  a72:=Tryz.isAgg131
  z72:=Tryz.sizeOf131
  v72:=Tryz.zeroValue131
  t164:=Tryz.underlying220
  a164:=Tryz.isAgg220
  z164:=Tryz.sizeOf220
  v164:=Tryz.zeroValue220}
theorem Tryz.Builder_Extra_165:Builder.Extra Tryz.prog Tryz.lays165_ren:={
  sizeBuilder:=by kernel_rfl
  liesBuilder:=by kernel_rfl
  t5:=Tryz.underlying5
  a5:=Tryz.isAgg5
  z5:=Tryz.sizeOf5
  v5:=Tryz.zeroValue5
  infoByte:=by kernel_rfl
  cellsByte:=by kernel_rfl
  sizeByte:=by kernel_rfl
  neB5:=by decide}
open Go.RowKit in
theorem Tryz.Builder_Grow_fresh (B b n:Nat)(w:World)(hB:B≤b)(hbk:w.heap[b]?=some (.cells #[.pointer none,.slice none 0 0] 131 (0,0)))(hBw:B≤w.heap.size)(hn:n≤281474976710656) :
    Calls Tryz.prog 283 #[.pointer (some ⟨b,0,none⟩),.int .i64 n] w fun e w'=>e = .returned (.tuple #[])∧(Lib.BuilderAt 131 5 B b (.pointer (some ⟨b,0,none⟩)) [] w'∧Below B w w'):=Any.Builder_Grow_fresh Tryz.lays165 Tryz.Builder_Extra_165 B b n w hB hbk hBw hn
end Go.Proofs
namespace Go.Proofs.YtllhobicfclheaaGreatDoor
open Go.ChangeShapes Go.WideShapes Go.ChangeAt Go.RowKit
set_option linter.unusedVariables false
set_option maxRecDepth 100000
set_option maxHeartbeats 51200000
end Go.Proofs.YtllhobicfclheaaGreatDoor
