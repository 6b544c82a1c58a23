/-
  A part of a proof. No conditions.
-/
import Derived.Test.YtllhobicfclheaaGreatDoorY30
import Derived.Test.YtllhobicfclheaaGreatDoorY39
namespace Go.Proofs.YtllhobicfclheaaGreatDoor
open Go.ChangeShapes Go.WideShapes Go.ChangeAt Go.RowKit
set_option linter.unusedVariables false
set_option maxRecDepth 100000
set_option maxHeartbeats 51200000
namespace J4
open Ms Box Nu J1 J2 An Tc Rg
open F1 (bt d0b o0b o0g p0f)
open Cur (numL p0g)
open Bk (Bk Sh shC cur w0a loadVarK d0a f0a a0a o0a b0a q0a m0a)
open Hs
def Took (v:Value)(s:ByteArray)(p:Nat×Bool)(b:Nat)(w:World)(e:Ending)(w':World):Prop:=e = .returned v∧Bk 215 w' b (cu s p)∧Bel w.heap.size b w w'
theorem rdnum (s:ByteArray)(p:Nat×Bool)(k b:Nat)(ki:Int)(hki:ki=k)(hs:s.size≤maxLen)(hp:p.1≤s.size)(h4:1≤k)(h5:k≤7)(w:World)(hb:Bk 215 w b (cu s p)) :
    Calls Tryz.prog 347 #[.pointer (some ⟨b,0,none⟩),.int .i64 ki] w (Took (.int .i64 (rdV s p k)) s (nx s k p) b w):=by
 have P:=Lib.hid (cnum s p k ki hki hs hp h4 h5 w);refine' qz4o;have hlt:=hb.lt;clear hb hki hp;unfold Took;generalize rdV s p k=v at *;generalize nx s k p=q at *;rw[HQ.out];clear HQ;refine' qz3v;refine P.out.mono ?_;refine' qz7t;refine' qz4s;refine' qz88
theorem rdtext (s:ByteArray)(p:Nat×Bool)(k b:Nat)(ki:Int)(hki:ki=k)(hs:s.size≤maxLen)(hp:p.1≤s.size)(w:World)(hb:Bk 215 w b (cu s p)) :
    Calls Tryz.prog 327 #[.pointer (some ⟨b,0,none⟩),.int .i64 ki] w (Took (.string (rdT s p k)) s (nx s k p) b w):=by
 have P:=Lib.hid (ctext s p k ki hki hs hp w);refine' qz4o;have hlt:=hb.lt;clear hb hki hp;unfold Took;generalize rdT s p k=v at *;generalize nx s k p=q at *;rw[HQ.out];clear HQ;refine' qz3v;refine P.out.mono ?_;refine' qz7t;refine' qz4s;refine' qz88
theorem u0q (s:ByteArray)(a b:Nat)(hs:s.size≤maxLen)(ha:a≤s.size)(w:World)(hb:Bk 215 w b (cu s (a,false))) :
    Calls Tryz.prog 328 #[.pointer (some ⟨b,0,none⟩)] w (Took (.string (s.extract a s.size)) s (s.size,false) b w):=by
 have hm:=hs;unfold maxLen at hm;have PL:=Lib.hid (p0g s a s.size w)
 rw[IntWalk.wrap64_in _ ⟨by omega,by omega⟩]at PL
 have PT:=Lib.hid (fun V (h:Bk 215 V b (cu s (a,false)))=>rdtext s (a,false) (s.size - a) b ((s.size:Int) - a) (by omega) hs ha V h)
 refine' qzcm;rw[e1,e2]at PT;refine' qz4n;clear hb hs hm ha e1 e2;refine' qz3v;refine PL.out.mono ?_;refine' qz10;have HB:=Lib.hid (HB.out.below hb1)
 have HL:=Lib.hid (show Bel w.heap.size b w w1 from Bel.of hb1)
 have hsz:=hb1.size;clear hb1 PL;refine' qzg;refine(PT.out _ HB.out).mono ?_;rintro e w2 ⟨rfl,h1,h2⟩;have HX:=Lib.hid h1;have HL:=Lib.hid (HL.out.trans (h2.mono hsz));clear h1 h2;refine' qzj;exact⟨rfl,HX.out,HL.out⟩
structure R (T:TypeId)(w0 W:World)(b mb:Nat)(s:ByteArray)(zs cs:Array Value)(p:Nat×Bool):Prop where
  msg:Bk T W mb cs
  rd:Bk 215 W b (cu s p)
  res:Bk T W w0.heap.size zs
  o1:w0.heap.size<mb
  o2:b<w0.heap.size
  bel:Bel w0.heap.size b w0 W
  le:p.1≤s.size
section
variable {T:TypeId} {w0 W W':World} {b mb:Nat} {s:ByteArray} {zs cs cs':Array Value} {p p':Nat×Bool}
theorem R.step {v:Value}{k:Nat}{e:Ending}(g:R T w0 W b mb s zs cs p)(h:Took v s (nx s k p) b W e W'):R T w0 W' b mb s zs cs (nx s k p):=
  ⟨h.2.2.bk (by have:=g.o1;have:=g.o2;omega) g.msg,h.2.1,h.2.2.bk (by have:=g.o2;omega) g.res,g.o1,g.o2,g.bel.trans (h.2.2.mono g.bel.size),t1o g.le⟩
theorem R.set (g:R T w0 W b mb s zs cs p){i:Nat}{v:Value}(hm:cs.setIfInBounds i v=cs'):R T w0 (W.setCell ⟨mb,i,none⟩ v) b mb s zs cs' p:=
  ⟨g.msg.set hm,g.rd.off (by have:=g.o1;have:=g.o2;show b≠mb;omega) _,g.res.off (by have:=g.o1;show w0.heap.size≠mb;omega) _,g.o1,g.o2,g.bel.cell (p:=⟨mb,i,none⟩) (by have:=g.o1;show w0.heap.size≤mb;omega) _,g.le⟩
theorem R.start (w:World)(s:ByteArray)(zs m0:Array Value)(hb:Bk 215 w b (cu s p))(hp:p.1≤s.size) :
    R T w (((w.alloc (.cells zs T)).alloc (.cells zs T)).setRow (w.heap.size+1) m0) b (w.heap.size+1) s zs m0 p:=by
 have A:=Bk.Bk.new T (w.alloc (.cells zs T)) zs;rw[b0a]at A;have hl:=hb.lt
 exact⟨A.put _,((hb.old _).old _).row (by omega) _,((Bk.Bk.new T w zs).old _).row (by omega) _,by omega,hl,
  (Bel.of (balloc (balloc (Below.refl _ w) _) _)).row (by omega) _,hp⟩
theorem R.plain (w:World)(s:ByteArray)(zs:Array Value)(hb:Bk 215 w b (cu s p))(hp:p.1≤s.size) :
    R T w ((w.alloc (.cells zs T)).alloc (.cells zs T)) b (w.heap.size+1) s zs zs p:=by
 have A:=Bk.Bk.new T (w.alloc (.cells zs T)) zs;rw[b0a]at A;have hl:=hb.lt
 exact⟨A,(hb.old _).old _,(Bk.Bk.new T w zs).old _,by omega,hl,Bel.of (balloc (balloc (Below.refl _ w) _) _),hp⟩
theorem R.ends (g:R T w0 W b mb s zs cs p)(r:Array Value):Bk T (W.setRow w0.heap.size r) w0.heap.size r∧Bk 215 (W.setRow w0.heap.size r) b (cu s p)∧Bel w0.heap.size b w0 (W.setRow w0.heap.size r):=
  ⟨g.res.put _,g.rd.row (by have:=g.o2;omega) _,g.bel.row (Nat.le_refl _) _⟩
end
theorem shM:Sh Tryz.prog 29 25:=⟨_,Tryz.underlying29,by kernel_rfl⟩
theorem shU:Sh Tryz.prog 223 10:=⟨_,Tryz.underlying223,by kernel_rfl⟩
theorem oneU (x:Up):(x.cells.all fun x=>x.oneCell')=true:=by simp[Up.cells,Value.oneCell']
theorem u0c {ops:Array Oper}{rest:List Oper}{o:Oper}{a:Act}{w:World}{Q:Exit→Act→World→Prop}(hgd:o.guard=none)(x:Operand)(ho:o.op = .load 223 x){b:Nat}(hx:a.eval x = .pointer (some ⟨b,0,none⟩)){m:Up}(hb:Bk 223 w b m.cells)
    (h:wpList Tryz.prog ops Q rest (a.put o.dst (.agg m.cells)) w):wpList Tryz.prog ops Q (o::rest) a w:=f0a shU hgd x ho hx hb rfl h
theorem z0b {ops:Array Oper}{rest:List Oper}{o:Oper}{a:Act}{w:World}{Q:Exit→Act→World→Prop}(hgd:o.guard=none)(x y:Operand)(ho:o.op = .store 223 x y){b:Nat}(hx:a.eval x = .pointer (some ⟨b,0,none⟩)){m m':Up}(hy:a.eval y = .agg m'.cells)(hb:Bk 223 w b m.cells)
    (h:wpList Tryz.prog ops Q rest (a.put o.dst undef) (w.setRow b m'.cells)):wpList Tryz.prog ops Q (o::rest) a w:=a0a shU hgd x y ho hx hy hb rfl rfl (oneU m') h
def R9 (s:ByteArray):M:={ M.zero with kind:=12,ae:=(rdV s (0,false) 1),plen:=(rdV s (nx s 1 (0,false)) 1)}
theorem y0h (s:ByteArray)(b:Nat)(hs:s.size≤maxLen)(w:World)(hb:Bk 215 w b (cu s (0,false))) :
    Calls Tryz.prog 324 #[.pointer (some ⟨b,0,none⟩)] w (Took (.agg (R9 s).cells) s (nx s 1 (nx s 1 (0,false))) b w):=by
 show Calls _ _ _ _ (Took (.agg (M.cells ({ M.zero with kind:=12,ae:=(rdV s (0,false) 1),plen:=(rdV s (nx s 1 (0,false)) 1)}:M))) s (nx s 1 (nx s 1 (0,false))) b w)
 refine' qzo;refine' qz5x;rw[hz]at A0
 have HG:=Lib.hid (R.start (T:=29) w s M.zero.cells (M.cells ({ M.zero with kind:=12}:M)) hb (Nat.zero_le _))
 refine' qzax
 go_upto_region 2 with(first|(refine d0a rfl 29 _ rfl (M.cells ({ M.zero with kind:=12}:M)) (by kernel_rfl) ?_)|(change wpList _ _ _ _ _ (W.alloc (.cells M.zero.cells 29));refine e0a (b:=w.heap.size+1) (m:=M.zero) (m':=({ M.zero with kind:=12}:M)) rfl _ _ rfl (by first|rfl|(rw[←hz];rfl)) rfl A0 ?_))
 try rw[hz]
 clear A0 hz;refine' qz5q;refine' qz7p;intro e V1 ht;refine' qz6r;have d:=G0.msg.cell 5 (.int .i64 0) rfl;have fd:=G0.msg.frozen 5
 have HG:=Lib.hid (show R 29 w (V1.setCell ⟨w.heap.size+1,5,none⟩ (.int .i64 (rdV s (0,false) 1))) b (w.heap.size+1) s M.zero.cells (M.cells ({ M.zero with kind:=12,ae:=(rdV s (0,false) 1)}:M)) (nx s 1 (0,false))from G0.set rfl)
 clear G0;refine' qzcn;clear d fd;generalize V1.setCell ⟨w.heap.size+1,5,none⟩ (.int .i64 (rdV s (0,false) 1))=W1 at *;refine' qzar;intro e V2 ht;refine' qz6r;have d:=G0.msg.cell 7 (.int .i64 0) rfl;have fd:=G0.msg.frozen 7
 have HG:=Lib.hid (show R 29 w (V2.setCell ⟨w.heap.size+1,7,none⟩ (.int .i64 (rdV s (nx s 1 (0,false)) 1))) b (w.heap.size+1) s M.zero.cells (M.cells ({ M.zero with kind:=12,ae:=(rdV s (0,false) 1),plen:=(rdV s (nx s 1 (0,false)) 1)}:M)) (nx s 1 (nx s 1 (0,false)))from G0.set rfl)
 clear G0;refine' qzco;clear d fd;generalize V2.setCell ⟨w.heap.size+1,7,none⟩ (.int .i64 (rdV s (nx s 1 (0,false)) 1))=W2 at *
 have HE:=Lib.hid (HG.out.ends (M.cells ({ M.zero with kind:=12,ae:=(rdV s (0,false) 1),plen:=(rdV s (nx s 1 (0,false)) 1)}:M)))
 go_wp2_with (first|(refine j0a (b:=w.heap.size+1) (m:=({ M.zero with kind:=12,ae:=(rdV s (0,false) 1),plen:=(rdV s (nx s 1 (0,false)) 1)}:M)) rfl _ rfl rfl HG.out.msg ?_)|(refine e0a (b:=w.heap.size) (m:=M.zero) (m':=({ M.zero with kind:=12,ae:=(rdV s (0,false) 1),plen:=(rdV s (nx s 1 (0,false)) 1)}:M)) rfl _ _ rfl rfl rfl HG.out.res ?_))
 exact bodyPost_ret (v := .agg (M.cells ({ M.zero with kind:=12,ae:=(rdV s (0,false) 1),plen:=(rdV s (nx s 1 (0,false)) 1)}:M))) (q0a rfl _ _ w.heap.size _ rfl shM HE.out.1 rfl) rfl ⟨rfl,HE.out.2.1,HE.out.2.2⟩
def R10 (s:ByteArray):M:={ M.zero with kind:=13,ae:=(rdV s (0,false) 1),plen:=(rdV s (nx s 1 (0,false)) 1),seq:=(rdV s (nx s 1 (nx s 1 (0,false))) 2),hops:=(rdV s (nx s 2 (nx s 1 (nx s 1 (0,false)))) 1),id:=(rdT s (nx s 1 (nx s 1 (nx s 2 (nx s 1 (nx s 1 (0,false)))))) 8)}
theorem p1d (s:ByteArray)(b:Nat)(hs:s.size≤maxLen)(w:World)(hb:Bk 215 w b (cu s (0,false))) :
    Calls Tryz.prog 325 #[.pointer (some ⟨b,0,none⟩)] w (Took (.agg (R10 s).cells) s (nx s 8 (nx s 1 (nx s 1 (nx s 2 (nx s 1 (nx s 1 (0,false))))))) b w):=by
 show Calls _ _ _ _ (Took (.agg (M.cells ({ M.zero with kind:=13,ae:=(rdV s (0,false) 1),plen:=(rdV s (nx s 1 (0,false)) 1),seq:=(rdV s (nx s 1 (nx s 1 (0,false))) 2),hops:=(rdV s (nx s 2 (nx s 1 (nx s 1 (0,false)))) 1),id:=(rdT s (nx s 1 (nx s 1 (nx s 2 (nx s 1 (nx s 1 (0,false)))))) 8)}:M))) s (nx s 8 (nx s 1 (nx s 1 (nx s 2 (nx s 1 (nx s 1 (0,false))))))) b w)
 refine' qzo;refine' qz5x;rw[hz]at A0
 have HG:=Lib.hid (R.start (T:=29) w s M.zero.cells (M.cells ({ M.zero with kind:=13}:M)) hb (Nat.zero_le _))
 refine' qzax
 go_upto_region 2 with(first|(refine d0a rfl 29 _ rfl (M.cells ({ M.zero with kind:=13}:M)) (by kernel_rfl) ?_)|(change wpList _ _ _ _ _ (W.alloc (.cells M.zero.cells 29));refine e0a (b:=w.heap.size+1) (m:=M.zero) (m':=({ M.zero with kind:=13}:M)) rfl _ _ rfl (by first|rfl|(rw[←hz];rfl)) rfl A0 ?_))
 try rw[hz]
 clear A0 hz;refine' qz5q;refine' qz7p;intro e V3 ht;refine' qz6r;have d:=G0.msg.cell 5 (.int .i64 0) rfl;have fd:=G0.msg.frozen 5
 have HG:=Lib.hid (show R 29 w (V3.setCell ⟨w.heap.size+1,5,none⟩ (.int .i64 (rdV s (0,false) 1))) b (w.heap.size+1) s M.zero.cells (M.cells ({ M.zero with kind:=13,ae:=(rdV s (0,false) 1)}:M)) (nx s 1 (0,false))from G0.set rfl)
 clear G0;refine' qzcn;clear d fd;generalize V3.setCell ⟨w.heap.size+1,5,none⟩ (.int .i64 (rdV s (0,false) 1))=W3 at *;refine' qzar;intro e V4 ht;refine' qz6r;have d:=G0.msg.cell 7 (.int .i64 0) rfl;have fd:=G0.msg.frozen 7
 have HG:=Lib.hid (show R 29 w (V4.setCell ⟨w.heap.size+1,7,none⟩ (.int .i64 (rdV s (nx s 1 (0,false)) 1))) b (w.heap.size+1) s M.zero.cells (M.cells ({ M.zero with kind:=13,ae:=(rdV s (0,false) 1),plen:=(rdV s (nx s 1 (0,false)) 1)}:M)) (nx s 1 (nx s 1 (0,false)))from G0.set rfl)
 clear G0;refine' qzco;clear d fd;generalize V4.setCell ⟨w.heap.size+1,7,none⟩ (.int .i64 (rdV s (nx s 1 (0,false)) 1))=W4 at *;refine' qzg
 refine(rdnum s (nx s 1 (nx s 1 (0,false))) 2 b 2 rfl hs HG.out.le (by omega) (by omega) _ HG.out.rd).mono ?_
 intro e V5 ht;refine' qz6r;have d:=G0.msg.cell 12 (.int .i64 0) rfl;have fd:=G0.msg.frozen 12
 have HG:=Lib.hid (show R 29 w (V5.setCell ⟨w.heap.size+1,12,none⟩ (.int .i64 (rdV s (nx s 1 (nx s 1 (0,false))) 2))) b (w.heap.size+1) s M.zero.cells (M.cells ({ M.zero with kind:=13,ae:=(rdV s (0,false) 1),plen:=(rdV s (nx s 1 (0,false)) 1),seq:=(rdV s (nx s 1 (nx s 1 (0,false))) 2)}:M)) (nx s 2 (nx s 1 (nx s 1 (0,false))))from G0.set rfl)
 clear G0;refine' qzcv;clear d fd;generalize V5.setCell ⟨w.heap.size+1,12,none⟩ (.int .i64 (rdV s (nx s 1 (nx s 1 (0,false))) 2))=W5 at *;refine' qzg
 refine(rdnum s (nx s 2 (nx s 1 (nx s 1 (0,false)))) 1 b 1 rfl hs HG.out.le (by omega) (by omega) _ HG.out.rd).mono ?_
 intro e V6 ht;refine' qz6r;have d:=G0.msg.cell 16 (.int .i64 0) rfl;have fd:=G0.msg.frozen 16
 have HG:=Lib.hid (show R 29 w (V6.setCell ⟨w.heap.size+1,16,none⟩ (.int .i64 (rdV s (nx s 2 (nx s 1 (nx s 1 (0,false)))) 1))) b (w.heap.size+1) s M.zero.cells (M.cells ({ M.zero with kind:=13,ae:=(rdV s (0,false) 1),plen:=(rdV s (nx s 1 (0,false)) 1),seq:=(rdV s (nx s 1 (nx s 1 (0,false))) 2),hops:=(rdV s (nx s 2 (nx s 1 (nx s 1 (0,false)))) 1)}:M)) (nx s 1 (nx s 2 (nx s 1 (nx s 1 (0,false)))))from G0.set rfl)
 clear G0;refine' qzcp;clear d fd;generalize V6.setCell ⟨w.heap.size+1,16,none⟩ (.int .i64 (rdV s (nx s 2 (nx s 1 (nx s 1 (0,false)))) 1))=W6 at *;refine' qzg;refine(rdtext s (nx s 1 (nx s 2 (nx s 1 (nx s 1 (0,false))))) 1 b 1 rfl hs HG.out.le _ HG.out.rd).mono ?_;intro e V7 ht;refine' qz6r;have HG:=Lib.hid G0;clear G0;refine' qzg;refine(rdtext s (nx s 1 (nx s 1 (nx s 2 (nx s 1 (nx s 1 (0,false)))))) 8 b 8 rfl hs HG.out.le _ HG.out.rd).mono ?_;intro e V8 ht;refine' qz6r;have d:=G0.msg.cell 11 (.string ByteArray.empty) rfl;have fd:=G0.msg.frozen 11
 have HG:=Lib.hid (show R 29 w (V8.setCell ⟨w.heap.size+1,11,none⟩ (.string (rdT s (nx s 1 (nx s 1 (nx s 2 (nx s 1 (nx s 1 (0,false)))))) 8))) b (w.heap.size+1) s M.zero.cells (M.cells ({ M.zero with kind:=13,ae:=(rdV s (0,false) 1),plen:=(rdV s (nx s 1 (0,false)) 1),seq:=(rdV s (nx s 1 (nx s 1 (0,false))) 2),hops:=(rdV s (nx s 2 (nx s 1 (nx s 1 (0,false)))) 1),id:=(rdT s (nx s 1 (nx s 1 (nx s 2 (nx s 1 (nx s 1 (0,false)))))) 8)}:M)) (nx s 8 (nx s 1 (nx s 1 (nx s 2 (nx s 1 (nx s 1 (0,false)))))))from G0.set rfl)
 clear G0;refine' qzcq;clear d fd;generalize V8.setCell ⟨w.heap.size+1,11,none⟩ (.string (rdT s (nx s 1 (nx s 1 (nx s 2 (nx s 1 (nx s 1 (0,false)))))) 8))=W8 at *
 have HE:=Lib.hid (HG.out.ends (M.cells ({ M.zero with kind:=13,ae:=(rdV s (0,false) 1),plen:=(rdV s (nx s 1 (0,false)) 1),seq:=(rdV s (nx s 1 (nx s 1 (0,false))) 2),hops:=(rdV s (nx s 2 (nx s 1 (nx s 1 (0,false)))) 1),id:=(rdT s (nx s 1 (nx s 1 (nx s 2 (nx s 1 (nx s 1 (0,false)))))) 8)}:M)))
 go_wp2_with (first|(refine j0a (b:=w.heap.size+1) (m:=({ M.zero with kind:=13,ae:=(rdV s (0,false) 1),plen:=(rdV s (nx s 1 (0,false)) 1),seq:=(rdV s (nx s 1 (nx s 1 (0,false))) 2),hops:=(rdV s (nx s 2 (nx s 1 (nx s 1 (0,false)))) 1),id:=(rdT s (nx s 1 (nx s 1 (nx s 2 (nx s 1 (nx s 1 (0,false)))))) 8)}:M)) rfl _ rfl rfl HG.out.msg ?_)|(refine e0a (b:=w.heap.size) (m:=M.zero) (m':=({ M.zero with kind:=13,ae:=(rdV s (0,false) 1),plen:=(rdV s (nx s 1 (0,false)) 1),seq:=(rdV s (nx s 1 (nx s 1 (0,false))) 2),hops:=(rdV s (nx s 2 (nx s 1 (nx s 1 (0,false)))) 1),id:=(rdT s (nx s 1 (nx s 1 (nx s 2 (nx s 1 (nx s 1 (0,false)))))) 8)}:M)) rfl _ _ rfl rfl rfl HG.out.res ?_))
 exact bodyPost_ret (v := .agg (M.cells ({ M.zero with kind:=13,ae:=(rdV s (0,false) 1),plen:=(rdV s (nx s 1 (0,false)) 1),seq:=(rdV s (nx s 1 (nx s 1 (0,false))) 2),hops:=(rdV s (nx s 2 (nx s 1 (nx s 1 (0,false)))) 1),id:=(rdT s (nx s 1 (nx s 1 (nx s 2 (nx s 1 (nx s 1 (0,false)))))) 8)}:M))) (q0a rfl _ _ w.heap.size _ rfl shM HE.out.1 rfl) rfl ⟨rfl,HE.out.2.1,HE.out.2.2⟩
def R8 (s:ByteArray):Up:={ Up.zero with ae:=(rdV s (0,false) 1),flags:=(rdV s (nx s 1 (0,false)) 1),plen:=(rdV s (nx s 1 (nx s 1 (0,false))) 1),om:=(rdV s (nx s 1 (nx s 1 (nx s 1 (0,false)))) 1),iv:=(rdV s (nx s 1 (nx s 1 (nx s 1 (nx s 1 (0,false))))) 2),seq:=(rdV s (nx s 2 (nx s 1 (nx s 1 (nx s 1 (nx s 1 (0,false)))))) 2),metric:=(rdV s (nx s 2 (nx s 2 (nx s 1 (nx s 1 (nx s 1 (nx s 1 (0,false))))))) 2)}
theorem b0h (s:ByteArray)(b:Nat)(hs:s.size≤maxLen)(w:World)(hb:Bk 215 w b (cu s (0,false))) :
    Calls Tryz.prog 359 #[.pointer (some ⟨b,0,none⟩)] w (Took (.agg (R8 s).cells) s (nx s 2 (nx s 2 (nx s 2 (nx s 1 (nx s 1 (nx s 1 (nx s 1 (0,false)))))))) b w):=by
 show Calls _ _ _ _ (Took (.agg (Up.cells ({ Up.zero with ae:=(rdV s (0,false) 1),flags:=(rdV s (nx s 1 (0,false)) 1),plen:=(rdV s (nx s 1 (nx s 1 (0,false))) 1),om:=(rdV s (nx s 1 (nx s 1 (nx s 1 (0,false)))) 1),iv:=(rdV s (nx s 1 (nx s 1 (nx s 1 (nx s 1 (0,false))))) 2),seq:=(rdV s (nx s 2 (nx s 1 (nx s 1 (nx s 1 (nx s 1 (0,false)))))) 2),metric:=(rdV s (nx s 2 (nx s 2 (nx s 1 (nx s 1 (nx s 1 (nx s 1 (0,false))))))) 2)}:Up))) s (nx s 2 (nx s 2 (nx s 2 (nx s 1 (nx s 1 (nx s 1 (nx s 1 (0,false)))))))) b w)
 refine' qzb8;change Code.wp _ _ _ _ ((w.alloc (.cells Up.zero.cells 223)).alloc (.cells Up.zero.cells 223));have hz:=b0a w (.cells Up.zero.cells 223);have HG:=Lib.hid (R.plain (T:=223) w s Up.zero.cells hb (Nat.zero_le _));clear hb;generalize (w.alloc (.cells Up.zero.cells 223)).alloc (.cells Up.zero.cells 223)=V at *
 try rw[hz]
 clear hz;refine' qz7p;intro e V9 ht;refine' qz6r;have d:=G0.msg.cell 0 (.int .i64 0) rfl;have fd:=G0.msg.frozen 0
 have HG:=Lib.hid (show R 223 w (V9.setCell ⟨w.heap.size+1,0,none⟩ (.int .i64 (rdV s (0,false) 1))) b (w.heap.size+1) s Up.zero.cells (Up.cells ({ Up.zero with ae:=(rdV s (0,false) 1)}:Up)) (nx s 1 (0,false))from G0.set rfl)
 clear G0;refine' qzcn;clear d fd;generalize V9.setCell ⟨w.heap.size+1,0,none⟩ (.int .i64 (rdV s (0,false) 1))=W9 at *;refine' qzar;intro e V10 ht;refine' qz6r;have d:=G0.msg.cell 1 (.int .i64 0) rfl;have fd:=G0.msg.frozen 1
 have HG:=Lib.hid (show R 223 w (V10.setCell ⟨w.heap.size+1,1,none⟩ (.int .i64 (rdV s (nx s 1 (0,false)) 1))) b (w.heap.size+1) s Up.zero.cells (Up.cells ({ Up.zero with ae:=(rdV s (0,false) 1),flags:=(rdV s (nx s 1 (0,false)) 1)}:Up)) (nx s 1 (nx s 1 (0,false)))from G0.set rfl)
 clear G0;refine' qzco;clear d fd;generalize V10.setCell ⟨w.heap.size+1,1,none⟩ (.int .i64 (rdV s (nx s 1 (0,false)) 1))=W10 at *;refine' qzg
 refine(rdnum s (nx s 1 (nx s 1 (0,false))) 1 b 1 rfl hs HG.out.le (by omega) (by omega) _ HG.out.rd).mono ?_
 intro e V11 ht;refine' qz6r;have d:=G0.msg.cell 2 (.int .i64 0) rfl;have fd:=G0.msg.frozen 2
 have HG:=Lib.hid (show R 223 w (V11.setCell ⟨w.heap.size+1,2,none⟩ (.int .i64 (rdV s (nx s 1 (nx s 1 (0,false))) 1))) b (w.heap.size+1) s Up.zero.cells (Up.cells ({ Up.zero with ae:=(rdV s (0,false) 1),flags:=(rdV s (nx s 1 (0,false)) 1),plen:=(rdV s (nx s 1 (nx s 1 (0,false))) 1)}:Up)) (nx s 1 (nx s 1 (nx s 1 (0,false))))from G0.set rfl)
 clear G0;refine' qzcv;clear d fd;generalize V11.setCell ⟨w.heap.size+1,2,none⟩ (.int .i64 (rdV s (nx s 1 (nx s 1 (0,false))) 1))=W11 at *;refine' qzg
 refine(rdnum s (nx s 1 (nx s 1 (nx s 1 (0,false)))) 1 b 1 rfl hs HG.out.le (by omega) (by omega) _ HG.out.rd).mono ?_
 intro e V12 ht;refine' qz6r;have d:=G0.msg.cell 3 (.int .i64 0) rfl;have fd:=G0.msg.frozen 3
 have HG:=Lib.hid (show R 223 w (V12.setCell ⟨w.heap.size+1,3,none⟩ (.int .i64 (rdV s (nx s 1 (nx s 1 (nx s 1 (0,false)))) 1))) b (w.heap.size+1) s Up.zero.cells (Up.cells ({ Up.zero with ae:=(rdV s (0,false) 1),flags:=(rdV s (nx s 1 (0,false)) 1),plen:=(rdV s (nx s 1 (nx s 1 (0,false))) 1),om:=(rdV s (nx s 1 (nx s 1 (nx s 1 (0,false)))) 1)}:Up)) (nx s 1 (nx s 1 (nx s 1 (nx s 1 (0,false)))))from G0.set rfl)
 clear G0;refine' qzcp;clear d fd;generalize V12.setCell ⟨w.heap.size+1,3,none⟩ (.int .i64 (rdV s (nx s 1 (nx s 1 (nx s 1 (0,false)))) 1))=W12 at *;refine' qzg
 refine(rdnum s (nx s 1 (nx s 1 (nx s 1 (nx s 1 (0,false))))) 2 b 2 rfl hs HG.out.le (by omega) (by omega) _ HG.out.rd).mono ?_
 intro e V13 ht;refine' qz6r;have d:=G0.msg.cell 4 (.int .i64 0) rfl;have fd:=G0.msg.frozen 4
 have HG:=Lib.hid (show R 223 w (V13.setCell ⟨w.heap.size+1,4,none⟩ (.int .i64 (rdV s (nx s 1 (nx s 1 (nx s 1 (nx s 1 (0,false))))) 2))) b (w.heap.size+1) s Up.zero.cells (Up.cells ({ Up.zero with ae:=(rdV s (0,false) 1),flags:=(rdV s (nx s 1 (0,false)) 1),plen:=(rdV s (nx s 1 (nx s 1 (0,false))) 1),om:=(rdV s (nx s 1 (nx s 1 (nx s 1 (0,false)))) 1),iv:=(rdV s (nx s 1 (nx s 1 (nx s 1 (nx s 1 (0,false))))) 2)}:Up)) (nx s 2 (nx s 1 (nx s 1 (nx s 1 (nx s 1 (0,false))))))from G0.set rfl)
 clear G0
 go_upto_region 7 with fail
 clear d fd;generalize V13.setCell ⟨w.heap.size+1,4,none⟩ (.int .i64 (rdV s (nx s 1 (nx s 1 (nx s 1 (nx s 1 (0,false))))) 2))=W13 at *;refine' qzg
 refine(rdnum s (nx s 2 (nx s 1 (nx s 1 (nx s 1 (nx s 1 (0,false)))))) 2 b 2 rfl hs HG.out.le (by omega) (by omega) _ HG.out.rd).mono ?_
 intro e V14 ht;refine' qz6r;have d:=G0.msg.cell 5 (.int .i64 0) rfl;have fd:=G0.msg.frozen 5
 have HG:=Lib.hid (show R 223 w (V14.setCell ⟨w.heap.size+1,5,none⟩ (.int .i64 (rdV s (nx s 2 (nx s 1 (nx s 1 (nx s 1 (nx s 1 (0,false)))))) 2))) b (w.heap.size+1) s Up.zero.cells (Up.cells ({ Up.zero with ae:=(rdV s (0,false) 1),flags:=(rdV s (nx s 1 (0,false)) 1),plen:=(rdV s (nx s 1 (nx s 1 (0,false))) 1),om:=(rdV s (nx s 1 (nx s 1 (nx s 1 (0,false)))) 1),iv:=(rdV s (nx s 1 (nx s 1 (nx s 1 (nx s 1 (0,false))))) 2),seq:=(rdV s (nx s 2 (nx s 1 (nx s 1 (nx s 1 (nx s 1 (0,false)))))) 2)}:Up)) (nx s 2 (nx s 2 (nx s 1 (nx s 1 (nx s 1 (nx s 1 (0,false)))))))from G0.set rfl)
 clear G0;refine' qzcq;clear d fd;generalize V14.setCell ⟨w.heap.size+1,5,none⟩ (.int .i64 (rdV s (nx s 2 (nx s 1 (nx s 1 (nx s 1 (nx s 1 (0,false)))))) 2))=W14 at *;refine' qzg
 refine(rdnum s (nx s 2 (nx s 2 (nx s 1 (nx s 1 (nx s 1 (nx s 1 (0,false))))))) 2 b 2 rfl hs HG.out.le (by omega) (by omega) _ HG.out.rd).mono ?_
 intro e V15 ht;refine' qz6r;have d:=G0.msg.cell 6 (.int .i64 0) rfl;have fd:=G0.msg.frozen 6
 have HG:=Lib.hid (show R 223 w (V15.setCell ⟨w.heap.size+1,6,none⟩ (.int .i64 (rdV s (nx s 2 (nx s 2 (nx s 1 (nx s 1 (nx s 1 (nx s 1 (0,false))))))) 2))) b (w.heap.size+1) s Up.zero.cells (Up.cells ({ Up.zero with ae:=(rdV s (0,false) 1),flags:=(rdV s (nx s 1 (0,false)) 1),plen:=(rdV s (nx s 1 (nx s 1 (0,false))) 1),om:=(rdV s (nx s 1 (nx s 1 (nx s 1 (0,false)))) 1),iv:=(rdV s (nx s 1 (nx s 1 (nx s 1 (nx s 1 (0,false))))) 2),seq:=(rdV s (nx s 2 (nx s 1 (nx s 1 (nx s 1 (nx s 1 (0,false)))))) 2),metric:=(rdV s (nx s 2 (nx s 2 (nx s 1 (nx s 1 (nx s 1 (nx s 1 (0,false))))))) 2)}:Up)) (nx s 2 (nx s 2 (nx s 2 (nx s 1 (nx s 1 (nx s 1 (nx s 1 (0,false))))))))from G0.set rfl)
 clear G0
 go_upto_region 9 with fail
 clear d fd;generalize V15.setCell ⟨w.heap.size+1,6,none⟩ (.int .i64 (rdV s (nx s 2 (nx s 2 (nx s 1 (nx s 1 (nx s 1 (nx s 1 (0,false))))))) 2))=W15 at *
 have HE:=Lib.hid (HG.out.ends (Up.cells ({ Up.zero with ae:=(rdV s (0,false) 1),flags:=(rdV s (nx s 1 (0,false)) 1),plen:=(rdV s (nx s 1 (nx s 1 (0,false))) 1),om:=(rdV s (nx s 1 (nx s 1 (nx s 1 (0,false)))) 1),iv:=(rdV s (nx s 1 (nx s 1 (nx s 1 (nx s 1 (0,false))))) 2),seq:=(rdV s (nx s 2 (nx s 1 (nx s 1 (nx s 1 (nx s 1 (0,false)))))) 2),metric:=(rdV s (nx s 2 (nx s 2 (nx s 1 (nx s 1 (nx s 1 (nx s 1 (0,false))))))) 2)}:Up)))
 go_wp2_with (first|(refine u0c (b:=w.heap.size+1) (m:=({ Up.zero with ae:=(rdV s (0,false) 1),flags:=(rdV s (nx s 1 (0,false)) 1),plen:=(rdV s (nx s 1 (nx s 1 (0,false))) 1),om:=(rdV s (nx s 1 (nx s 1 (nx s 1 (0,false)))) 1),iv:=(rdV s (nx s 1 (nx s 1 (nx s 1 (nx s 1 (0,false))))) 2),seq:=(rdV s (nx s 2 (nx s 1 (nx s 1 (nx s 1 (nx s 1 (0,false)))))) 2),metric:=(rdV s (nx s 2 (nx s 2 (nx s 1 (nx s 1 (nx s 1 (nx s 1 (0,false))))))) 2)}:Up)) rfl _ rfl rfl HG.out.msg ?_)|(refine z0b (b:=w.heap.size) (m:=Up.zero) (m':=({ Up.zero with ae:=(rdV s (0,false) 1),flags:=(rdV s (nx s 1 (0,false)) 1),plen:=(rdV s (nx s 1 (nx s 1 (0,false))) 1),om:=(rdV s (nx s 1 (nx s 1 (nx s 1 (0,false)))) 1),iv:=(rdV s (nx s 1 (nx s 1 (nx s 1 (nx s 1 (0,false))))) 2),seq:=(rdV s (nx s 2 (nx s 1 (nx s 1 (nx s 1 (nx s 1 (0,false)))))) 2),metric:=(rdV s (nx s 2 (nx s 2 (nx s 1 (nx s 1 (nx s 1 (nx s 1 (0,false))))))) 2)}:Up)) rfl _ _ rfl rfl rfl HG.out.res ?_))
 exact bodyPost_ret (v := .agg (Up.cells ({ Up.zero with ae:=(rdV s (0,false) 1),flags:=(rdV s (nx s 1 (0,false)) 1),plen:=(rdV s (nx s 1 (nx s 1 (0,false))) 1),om:=(rdV s (nx s 1 (nx s 1 (nx s 1 (0,false)))) 1),iv:=(rdV s (nx s 1 (nx s 1 (nx s 1 (nx s 1 (0,false))))) 2),seq:=(rdV s (nx s 2 (nx s 1 (nx s 1 (nx s 1 (nx s 1 (0,false)))))) 2),metric:=(rdV s (nx s 2 (nx s 2 (nx s 1 (nx s 1 (nx s 1 (nx s 1 (0,false))))))) 2)}:Up))) (q0a rfl _ _ w.heap.size _ rfl shU HE.out.1 rfl) rfl ⟨rfl,HE.out.2.1,HE.out.2.2⟩
def RQ (t:Int)(s:ByteArray):M:=if t=10 then R10 s else R9 s
def pQ (t:Int)(s:ByteArray):Nat×Bool:=if t=10 then(nx s 8 (nx s 1 (nx s 1 (nx s 2 (nx s 1 (nx s 1 (0,false)))))))else(nx s 1 (nx s 1 (0,false)))
def TookB (m:M)(c:Bool)(s:ByteArray)(p:Nat×Bool)(b:Nat)(w:World)(e:Ending)(w':World):Prop:=e = .returned (.tuple #[.agg m.cells,.bool c])∧Bk 215 w' b (cu s p)∧Bel w.heap.size b w w'
theorem e0h {v:Value}{s:ByteArray}{p:Nat×Bool}{b:Nat}{w W w1:World}{e:Ending}{X:M}{c:Bool}(hk:Took v s p b W e w1)(hw:Below w.heap.size w W)(hz:W.heap.size=w.heap.size+1)(hb:b<w.heap.size) :
    TookB X c s p b w (.returned (.tuple #[.agg X.cells,.bool c])) (w1.setRow w.heap.size X.cells):=
  ⟨rfl,hk.2.1.row (by omega) _,((Bel.of hw).trans (hk.2.2.mono (by omega))).row (Nat.le_refl _) _⟩
theorem p0k (t:Int)(s:ByteArray)(b:Nat)(h:t=9∨t=10)(hs:s.size≤maxLen)(w:World)(hb:Bk 215 w b (cu s (0,false))) :
    Calls Tryz.prog 296 #[.pointer (some ⟨b,0,none⟩),.int .i64 t] w (TookB (RQ t s) true s (pQ t s) b w):=by
 rcases h with rfl|rfl
 · rw[show RQ 9 s=R9 s from rfl,show pQ 9 s=(nx s 1 (nx s 1 (0,false)))from rfl]
   refine' qzo;refine' qz3p;refine' qz5r;have hlt:=hb.lt;clear hb;refine' qz3n;refine(y0h s b hs _ HR.out).mono ?_;refine' qz85;have HT:=Lib.hid (e0h (X:=R9 s) (c:=true) hk HB.out hz hlt);obtain⟨rfl,hk⟩:=hk;clear hk HX HR HB
   have HE:=Lib.hid (show TookB (R9 s) true s (nx s 1 (nx s 1 (0,false))) b w _ _ from HT.out)
   clear HT;generalize R9 s=x at *;refine' qz8e
 · rw[show RQ 10 s=R10 s from rfl,show pQ 10 s=(nx s 8 (nx s 1 (nx s 1 (nx s 2 (nx s 1 (nx s 1 (0,false)))))))from rfl]
   refine' qzo;refine' qz3p;refine' qz5r;have hlt:=hb.lt;clear hb;refine' qz3n;refine(p1d s b hs _ HR.out).mono ?_;refine' qz85;have HT:=Lib.hid (e0h (X:=R10 s) (c:=true) hk HB.out hz hlt);obtain⟨rfl,hk⟩:=hk;clear hk HX HR HB
   have HE:=Lib.hid (show TookB (R10 s) true s (nx s 8 (nx s 1 (nx s 1 (nx s 2 (nx s 1 (nx s 1 (0,false))))))) b w _ _ from HT.out)
   clear HT;generalize R10 s=x at *;refine' qz8e
end J4
end Go.Proofs.YtllhobicfclheaaGreatDoor
