/-
  A part of a proof. No conditions.
-/
import Derived.Test.YtllhobicfclheaaGreatDoorY19
namespace Go.Proofs.YtllhobicfclheaaGreatDoor
open Go.ChangeShapes Go.WideShapes Go.ChangeAt Go.RowKit
set_option linter.unusedVariables false
set_option maxRecDepth 100000
set_option maxHeartbeats 51200000
namespace Y3
open Ms Box Xv
open Xc (idx sl_m sl_l)
open Y1
open Ds (cellsD oneD shD Lst j0c f0d a0t z0a)
open Hx (i0e)
open Nu
open Cur (numL p0d e0d o0c)
open Bk (Bk Sh q0a loadVarK d0a f0a a0a o0a b0a)
def cur (s:ByteArray)(a:Int):Array Value:=#[.string s,.int .i64 a,.int .i64 8,.bool false]
theorem w0a (s:ByteArray)(a:Int):((cur s a).all fun x=>x.oneCell')=true:=by simp[cur,Value.oneCell']
theorem shC:Sh Tryz.prog 150 4:=⟨_,Tryz.underlying150,by kernel_rfl⟩
theorem cnew (s:ByteArray)(h:s.size=8)(w:World):Calls Tryz.prog 213 #[.string s] w fun e w'=>e = .returned (.agg (cur s 0))∧Below w.heap.size w w':=by
 have:=o0c s w (by rw[h];decide)
 rw[h]at this;exact this
theorem ctext (s:ByteArray)(h:s.size=8)(w:World):Calls Tryz.prog 247 #[.agg (cur s 0),.int .i64 4] w fun e w'=>e = .returned (.tuple #[.string (s.extract 0 4),.agg (cur s 4)])∧Below w.heap.size w w':=
  e0d s 0 8 4 w (by rw[h];decide) (by omega) (by omega) (by omega)
theorem cnum (s:ByteArray)(h:s.size=8)(w:World):Calls Tryz.prog 270 #[.agg (cur s 4),.int .i64 4] w fun e w'=>e = .returned (.tuple #[.int .i64 (numL ((s.data.toList.drop 4).take 4)),.agg (cur s 8)])∧Below w.heap.size w w':=
  p0d s 4 8 4 w (by rw[h];decide) (by omega) (by omega) (by omega) (by omega) (by omega)
theorem q1n (s:ByteArray):one s.data.toList=(s.extract 0 4,((numL ((s.data.toList.drop 4).take 4):Nat):Int)):=by
 unfold one
 rw[k0a (a:=s.extract 0 4) (b:=⟨(s.data.toList.take 4).toArray⟩) (by rw[n0a];simp)]
structure G (w0 w:World):Prop where
  res:Bk 48 w w0.heap.size (cellsD (⟨#[]⟩,0))
  bel:Below w0.heap.size w0 w
theorem G.call {w0 w w':World}(g:G w0 w)(hb:Below w.heap.size w w'):G w0 w':=⟨g.res.below hb,g.bel.trans (hb.mono g.bel.size)⟩
theorem s1h (s:ByteArray)(w:World)(h:s.size=8):Calls Tryz.prog 282 #[.string s] w fun e w'=>e = .returned (.agg (cellsD (one s.data.toList)))∧Below w.heap.size w w':=by
 have HN:=Lib.hid (fun V=>cnew s h V)
 have HT:=Lib.hid (fun V=>ctext s h V)
 have HU:=Lib.hid (fun V=>cnum s h V)
 have HH:=Lib.hid (q1n s);clear h;generalize one s.data.toList=r at *;generalize s.extract 0 4=y0 at *;generalize ((numL ((s.data.toList.drop 4).take 4):Nat):Int)=y1 at *;refine' qzi;change Code.wp _ _ _ _ (w.alloc (.cells (cellsD (⟨#[]⟩,0)) 48))
 have HG:=Lib.hid (show G w (w.alloc (.cells (cellsD (⟨#[]⟩,0)) 48))from⟨Bk.Bk.new _ _ _,balloc (Below.refl _ w) _⟩)
 generalize w.alloc (.cells (cellsD (⟨#[]⟩,0)) 48)=W0 at *;refine' qzg;refine(HN.out _).mono ?_;rintro e W1 ⟨rfl,hb⟩;refine' qzd0;clear hb HN;refine' qzg;refine(HT.out _).mono ?_;refine' qz75;refine' qzd0;clear hb HT;have C:=Bk.Bk.new 150 w1 #[.string ⟨#[]⟩,.int .i64 0,.int .i64 0,.bool false]
 go_upto_region 2 with(refine a0a (b:=w1.heap.size) shC rfl _ _ rfl rfl rfl C rfl rfl (w0a s 4) ?_)
 clear C;change Code.wp _ _ _ _ ((w1.alloc (.cells #[.string ⟨#[]⟩,.int .i64 0,.int .i64 0,.bool false] 150)).setRow w1.heap.size (cur s 4));refine' qz33;have HC:=Lib.hid (Bk.Bk.new 150 w1 (cur s 4));have HG:=Lib.hid (HG.out.call (balloc (Below.refl _ w1) (.cells (cur s 4) 150)));generalize w1.alloc (.cells (cur s 4) 150)=W2 at *;generalize w1.heap.size=cb at *
 go_wp2_with (first|(refine f0a (b:=cb) shC rfl _ rfl rfl HC.out rfl ?_))
 refine(HU.out _).mono ?_;refine' qz4b;refine' qzd0;clear hb HU HC;have C:=Bk.Bk.new 150 w2 #[.string ⟨#[]⟩,.int .i64 0,.int .i64 0,.bool false]
 go_upto_region 3 with(refine a0a (b:=w2.heap.size) shC rfl _ _ rfl rfl rfl C rfl rfl (w0a s 8) ?_)
 clear C;change Code.wp _ _ _ _ ((w2.alloc (.cells #[.string ⟨#[]⟩,.int .i64 0,.int .i64 0,.bool false] 150)).setRow w2.heap.size (cur s 8));refine' qz33;have HG:=Lib.hid (HG.out.call (balloc (Below.refl _ w2) (.cells (cur s 8) 150)));generalize w2.alloc (.cells (cur s 8) 150)=W3 at *
 go_wp2_with (first|(refine d0a rfl 48 _ rfl (cellsD (y0,y1)) (by kernel_rfl) ?_)|(refine a0a (b:=w.heap.size) shD rfl _ _ rfl rfl rfl HG.out.res rfl rfl (oneD (y0,y1)) ?_))
 have HH:=HH.out;subst HH;exact bodyPost_ret (v := .agg (cellsD (y0,y1))) (q0a (ty:=48) (tb:=48) (n:=2) rfl _ _ w.heap.size (cellsD (y0,y1)) rfl shD (HG.out.res.put _) rfl) rfl ⟨rfl,below_setRow HG.out.bel (Nat.le_refl _) _⟩
theorem y1h (l:List UInt8):one (l.take 8)=one l:=by
 unfold one;rw[List.take_take,List.drop_take,List.take_take];rfl
theorem ext8 (s:ByteArray)(a b:Nat)(h:b=a+8):one (s.extract a b).data.toList=one (s.data.toList.drop a):=by
 subst h;rw[n0a,Nat.add_sub_cancel_left,y1h]
theorem e0s (s:ByteArray)(n:Nat)(w:World)(h:s.size=8*n)(hn:n≤255) :
    Calls Tryz.prog 236 #[.string s] w fun e w'=>∃ a c,e = .returned (.slice a n c)∧Lst w.heap.size w' (.slice a n c) (dests n s.data.toList)∧Below w.heap.size w w':=by
 have hz:(s.size:Int)=8*(n:Int):=by omega
 have hz2:(n:Int)≤255:=by omega
 have HS:=Lib.hid h;have HN:=Lib.hid hn;clear h hn;go_in
 go_upto_region 2 with(refine a0t rfl _ _ rfl w.heap.size n _ _ _ rfl rfl ?hC (by have:=HN.out;omega) (Nat.le_refl _) ?_)
 case hC=>first|omega|simp only[hz]
 intro w1 hl hb _;have HL0:=Lib.hid hl;have HB0:=Lib.hid hb;clear hl hb;go_wp2
 go_loopw [3,4] (fun v pv wr=>∃ k p:Nat,k≤n∧p=8*k∧pv = .int .i64 (p:Int)∧Hid (Lst w.heap.size wr v (dests k s.data.toList))∧Hid (Below w.heap.size w wr)) (fun _ pv _=>s.size - (intOf pv).toNat)
 case atStart=>exact⟨0,0,Nat.zero_le _,rfl,rfl,HL0,HB0⟩
 case round=>
  obtain⟨k,p,hk,hp,rfl,HL,HB⟩:=hrel;clear HL0 HB0;by_cases hlt:k<n
  · have HP:=Lib.hid hp
    have e1:(p:Int)<(s.size:Int):=by omega
    have hp0:(p:Int)≤2040:=by omega
    have sl:=sl_m s (p:Int) ((p:Int)+8) p (p+8) rfl (by push_cast;rfl) (by omega) (by have:=HS.out;omega)
    have PD:=Lib.hid (fun V=>s1h (s.extract p (p+8)) V (by simp;have:=HS.out;omega))
    rw[ext8 s p (p+8) rfl]at PD;have HD:=Lib.hid (c0s k s.data.toList);rw[←hp]at HD;have hc:=z0e k s.data.toList;generalize one (s.data.toList.drop p)=x at *;generalize s.extract p (p+8)=t at *;generalize dests k s.data.toList=l at *
    have HC:Hid (l.length≤100000):=Lib.hid (by have:=HN.out;omega)
    clear hp hc;refine' qzg;refine(PD.out _).mono ?_;refine' qz4b;refine' qz8;clear hb PD sl
    go_upto_region 4 with(first|(refine j0c rfl _ rfl (m:=x) rfl ?_)|(at_builtin;refine f0d rfl _ _ rfl w.heap.size _ l x w2.heap.size 1 rfl (HL.out.below (balloc (Below.refl _ w2) (.cells (cellsD x) 48))) rfl (z0a x w2) HC.out (balloc HB.out (.cells (cellsD x) 48)).size ?_))
    intro v' w' hl hb _
    have HL:Hid (Lst w.heap.size w' v' (dests (k+1) s.data.toList)):=Lib.hid (by rw[HD.out];exact hl)
    have HB:=Lib.hid ((balloc HB.out (.cells (cellsD x) 48)).trans hb);clear hl hb;go_wp2;go_roundw
    case rel=>exact⟨k+1,p+8,hlt,by have:=HP.out;omega,by push_cast;rfl,HL,HB⟩
    case measure=>simp only[intOf];omega
  · obtain rfl:k=n:=by omega
    have e1:¬(p:Int)<(s.size:Int):=by omega
    obtain⟨a,c,rfl⟩:=HL.out.slice;have HW:=Lib.hid HL.out;clear HL;have hc:=z0e k s.data.toList;refine' qzj;have hw:=HW.out;rw[hc]at hw;exact⟨a,c,rfl,hw,HB.out⟩
theorem v1a (s:ByteArray)(w:World)(h:¬s.size<4):Calls Tryz.prog 235 #[.string s] w fun e w'=>e = .returned (.int .i64 ((4+8*cnt s:Nat):Int))∧w'=w:=by
 have i3:=idx s 3 3 rfl (by omega)
 have n3:=d0b s 3;have l3:=o0b s 3;have v3:=i0e (bt s 3) n3 l3
 have HC:=Lib.hid (show((4+8*cnt s:Nat):Int)=4+bt s 3*8 by rw[a1l];omega)
 generalize bt s 3=x at *;generalize ((4+8*cnt s:Nat):Int)=y at *;refine' qz67
 exact⟨by rw[HC.out];rfl,rfl⟩
def chk (s:ByteArray):Int×Int:=if(headE s).2.2≠0 then((headE s).2.1,(headE s).2.2)else(0,0)
theorem s0k {s:ByteArray}{m:M}{i e:Int}(h:headE s=(m,i,e))(he:e≠0):chk s=(i,e):=by unfold chk;rw[h,if_pos he]
theorem l1b {s:ByteArray}{m:M}{i:Int}(h:headE s=(m,i,0)):chk s=(0,0):=by unfold chk;rw[h,if_neg (fun h=>h rfl)]
theorem i0g {p:Int×Int}{i e:Int}(h:p=(i,e)):Ending.returned (.tuple #[.int .i64 i,.int .i64 e]) = .returned (.tuple #[.int .i64 p.1,.int .i64 p.2]):=by rw[h]
theorem n0e (s:ByteArray)(w:World)(hs:s.size≤1048576):Calls Tryz.prog 234 #[.string s] w fun e w'=>e = .returned (.tuple #[.int .i64 (chk s).1,.int .i64 (chk s).2])∧w'=w:=by
 by_cases h:s.size<4
 · have HY:=Lib.hid (s0k (m0j h) (by decide))
   go_in;refine' qz2w;exact⟨i0g HY.out,rfl⟩
 refine' qzck
 have i3:=idx s 3 3 rfl (by omega)
 have n1:=d0b s 1;have l1:=o0b s 1;have n2:=d0b s 2;have l2:=o0b s 2;have n3:=d0b s 3;have l3:=o0b s 3;by_cases k1:bt s 1%128=0;rotate_left
 · have HY:=Lib.hid (s0k (z0n h (.inl k1)) (by decide))
   refine' qzcw;clear i2 i3 n2 l2 n3 l3;go_in;refine' qz2w;exact⟨i0g HY.out,rfl⟩
 by_cases k2:bt s 2=0;rotate_left
 · have HY:=Lib.hid (s0k (z0n h (.inr k2)) (by decide))
   refine' qzcw;generalize bt s 2=y at *;clear i3 n3 l3;go_in;refine' qz2w;exact⟨i0g HY.out,rfl⟩
 have hb:¬bad s:=by unfold bad;omega
 have hc:=a1l s
 have PE:=Lib.hid (fun V=>v1a s V h)
 by_cases k3:cnt s=0
 · have HY:=Lib.hid (s0k (l0t h hb k3) (by decide))
   have k4:bt s 3=0:=by omega
   clear k3 hc hb PE;rw[k2]at i2;rw[k4]at i3;refine' qzcw;clear k2 k4 n2 l2 n3 l3;go_in;refine' qz2w;exact⟨i0g HY.out,rfl⟩
 have k4:¬bt s 3<1:=by omega
 have hs2:(s.size:Int)≤1048576:=by omega
 rw[k2]at i2;clear k2 n2 l2;by_cases k5:s.size<4+8*cnt s
 · have HY:=Lib.hid (s0k (l0m h hb k3 k5) (by decide))
   have k6:(s.size:Int)<((4+8*cnt s:Nat):Int):=by omega
   clear k3 k5 hc hb;refine' qzcw;generalize bt s 3=z at *;generalize ((4+8*cnt s:Nat):Int)=y at *;refine' qz16;refine(PE.out _).mono ?_;rintro e w ⟨rfl,rfl⟩;refine' qz2w;exact⟨i0g HY.out,rfl⟩
 have HY:=Lib.hid (l1b (v0i h hb k3 k5))
 have k6:¬(s.size:Int)<((4+8*cnt s:Nat):Int):=by omega
 clear k3 k5 hc hb;refine' qzcw;generalize bt s 3=z at *;generalize ((4+8*cnt s:Nat):Int)=y at *;refine' qz16;refine(PE.out _).mono ?_;rintro e w ⟨rfl,rfl⟩;refine' qz2w;exact⟨i0g HY.out,rfl⟩
end Y3
namespace Y4
open Ms Box Xv
open Xc (idx sl_m sl_l)
open Am Y1 Y3 Hs Hy
open Hx (i0e r0c)
open Nu
open Cur (numL)
open Ds (cellsD)
open Bk (d0a b0a)
theorem i0q (s:ByteArray)(n:Nat)(hs:s.size≤200000){l:List El}{i e:Int}(h:outX (s.extract n s.size)=(l,i,e)):0≤i∧i≤200000:=by
 refine' qzdl
theorem y0y (n:Nat)(l:List UInt8)(h:8*n≤l.length):dests n (l.take (8*n))=dests n l:=by
 have:=q0z n (l.take (8*n)) (l.drop (8*n)) (by simp;omega)
 rw[List.take_append_drop]at this;exact this.symm
theorem o1n (s:ByteArray)(w:World)(h:¬s.size<4+8*cnt s) :
    Calls Tryz.prog 236 #[.string (s.extract 4 (4+8*cnt s))] w fun e w'=>∃ a c,e = .returned (.slice a (dests (cnt s) (s.data.toList.drop 4)).length c)∧Ds.Lst w.heap.size w' (.slice a (dests (cnt s) (s.data.toList.drop 4)).length c) (dests (cnt s) (s.data.toList.drop 4))∧Below w.heap.size w w':=by
 have hc:=x0u s
 have:=e0s (s.extract 4 (4+8*cnt s)) (cnt s) w (by simp;omega) (by omega)
 rw[n0a,Nat.add_sub_cancel_left,y0y _ _ (by rw[List.length_drop,c0a];omega)]at this
 rw[z0e];exact this
theorem o0h (s:ByteArray)(w:World)(hs:s.size≤200000):Calls Tryz.prog 175 #[.string s] w (AnsM (outE s) w):=by
 have PC:=Lib.hid (fun V=>n0e s V (by omega))
 rcases head_cases s with⟨i,x,h,he,hi0,hi⟩|⟨r,n,h,hn,hns,hr,hn4,k1,k2,k3,-⟩
 · have HY:=Lib.hid (w0d h he);rw[s0k h he]at PC;clear h hi0 hi hs;refine' qzb9;refine' qz5d;rintro e W ⟨rfl,rfl⟩;refine' qz2d;exact bodyPost_ret (v := .tuple #[.agg M.zero.cells,.int .i64 i,.int .i64 x]) (ret3 rfl _ _ w.heap.size M.zero rfl (R0.out.put (m':=M.zero)) (.int .i64 i) rfl (.int .i64 x) rfl) rfl (AnsM.no HY.out (below_setRow bel.out (Nat.le_refl _) _))
 rw[l1b h]at PC
 have PE:=Lib.hid (fun V=>v1a s V k1)
 rw[←hn4]at PE
 have PG:=Lib.hid (fun V=>Xc.c0e (s.extract n s.size) V (by simp;omega))
 have PL:=Lib.hid (fun V=>o1n s V (by omega))
 rw[←hn4]at PL;have sl:=sl_l s (n:Int) n s.size rfl hns rfl
 have sm:=sl_m s 4 (n:Int) 4 n rfl rfl (by omega) hns
 have i1:=idx s 1 1 rfl (by omega)
 have n1:=d0b s 1;have l1:=o0b s 1
 have v1:=i0e (bt s 1 / 128) (by omega) (by omega)
 have HR:=Lib.hid (show hdM s=({ M.zero with kind:=5,flags:=bt s 1 / 128,ll:=dests (cnt s) (s.data.toList.drop 4)}:M)from rfl)
 refine' qzd7;obtain⟨hi0,hi⟩:=i0q s n hs hX;rw[hX]at PG
 have hn:(n:Int)≤2044:=by omega
 have hn0:0≤(n:Int):=by omega
 by_cases hx:x=0;rotate_left
 · have HY:=Lib.hid (r0f h hX hx);clear h hX hs hns hr hn4 k1 k2 k3 sm i1 n1 l1 v1 HR PL;generalize s.extract n s.size=t at *;generalize (n:Int)=ni at *;refine' qzb9;refine' qz5d;rintro e W ⟨rfl,rfl⟩;refine' qzg;refine(PE.out _).mono ?_;rintro e W ⟨rfl,rfl⟩;refine' qz7a;rintro e w1 ⟨a,c,rfl,hr,hb⟩;refine' qz37;clear hb R0 bel hr PG sl
   go_wp2_with (first|(refine d0a rfl 29 _ rfl (M.cells M.zero) (by kernel_rfl) ?_)|(refine e0a (b:=w.heap.size) (m:=M.zero) (m':=M.zero) rfl _ _ rfl rfl rfl R1.out ?_))
   exact bodyPost_ret (v := .tuple #[.agg M.zero.cells,.int .i64 (ni+i),.int .i64 x]) (ret3 rfl _ _ w.heap.size M.zero rfl (R1.out.put (m':=M.zero)) (.int .i64 (ni+i)) rfl (.int .i64 x) rfl) rfl (AnsM.no HY.out (below_setRow bel1.out (Nat.le_refl _) _))
 subst hx;have HY:=Lib.hid (u0a h hX);rw[hr,HR.out]at HY;clear h hX hs hns hr hn4 k1 k2 k3 HR hi hi0;generalize dests (cnt s) (s.data.toList.drop 4)=ld at *;generalize s.extract n s.size=t at *;generalize s.extract 4 n=t1 at *;generalize (n:Int)=ni at *;generalize bt s 1=y at *;refine' qzb9;refine' qz5d;rintro e W ⟨rfl,rfl⟩;refine' qzg;refine(PE.out _).mono ?_;rintro e W ⟨rfl,rfl⟩;refine' qz7a;rintro e w1 ⟨a,c,rfl,hr,hb⟩;refine' qz37;have HL:=Lib.hid hr;have hw1:w.heap.size<w1.heap.size:=R1.out.lt;have hwW:w.heap.size<W.heap.size:=R0.out.lt;clear hb hr R0 bel PG sl
 go_upto_region 9 with fail
 refine' qzg;refine(PL.out _).mono ?_;rintro e w2 ⟨d,f,rfl,hr,hb⟩;refine' qzba;refine' qz7;have HD:=Lib.hid hr;clear hb hr R1 bel1 PL sm i1 v1
 go_wp2_with (first|(refine d0a rfl 29 _ rfl (M.cells { M.zero with kind:=5,flags:=y / 128,la:=d,ll:=ld,lc:=f,sa:=a,sl:=l,sc:=c}) (by kernel_rfl) ?_)|(refine e0a (b:=w.heap.size) (m:=M.zero) (m':={ M.zero with kind:=5,flags:=y / 128,la:=d,ll:=ld,lc:=f,sa:=a,sl:=l,sc:=c}) rfl _ _ rfl rfl rfl R2.out ?_))
 exact bodyPost_ret (v := .tuple #[.agg (M.cells { M.zero with kind:=5,flags:=y / 128,la:=d,ll:=ld,lc:=f,sa:=a,sl:=l,sc:=c}),.int .i64 0,.int .i64 0]) (ret3 rfl _ _ w.heap.size { M.zero with kind:=5,flags:=y / 128,la:=d,ll:=ld,lc:=f,sa:=a,sl:=l,sc:=c} rfl (R2.out.put (m':={ M.zero with kind:=5,flags:=y / 128,la:=d,ll:=ld,lc:=f,sa:=a,sl:=l,sc:=c})) (.int .i64 0) rfl (.int .i64 0) rfl) rfl (AnsM.both (r:={ M.zero with kind:=5,flags:=y / 128,ll:=ld}) HY.out (Ds.f0c HD.out hw1 _) (Nat.le_of_lt hw1) (f0c HL.out hwW _) (Nat.le_of_lt hwW) (below_setRow bel2.out (Nat.le_refl _) _))
end Y4
namespace Y2
open Ms Box Xv Y1 Am
open Ds (cellsD)
open Oct (fitsB)
open Hs (a0b)
open Go.Proofs.YtllhobicfclheaaGreatDoor.Or (p0a)
theorem l0g (m:M):Bare.bareN m=bare m:=rfl
def rightD (l:List El):Bool:=decide (1≤l.length∧l.length≤255)&&okD l
theorem t0s {l:List El}(h:¬(1≤l.length∧l.length≤255)):rightD l=false:=by unfold rightD;rw[decide_eq_false h];rfl
theorem r1h {l:List El}(h:1≤l.length∧l.length≤255):rightD l=okD l:=by unfold rightD;rw[decide_eq_true h];rfl
theorem ok_eq (m:M):okE m=(decide (m.kind=5)&&(bare m&&(decide (0≤m.flags∧m.flags≤1)&&(rightD m.ll&&okX m.sl)))):=by
 unfold okE nums rightD;simp only[Bool.and_assoc]
theorem n0k (d:ByteArray)(n:Int)(h:d.size=4)(hf:fitsB n 4=true):ok1D (d,n)=true:=by unfold ok1D;rw[decide_eq_true h,hf];rfl
theorem v1k (d:ByteArray)(n:Int)(h:¬d.size=4):ok1D (d,n)=false:=by unfold ok1D;rw[decide_eq_false h];rfl
theorem w1n (d:ByteArray)(n:Int)(hf:fitsB n 4=false):ok1D (d,n)=false:=by unfold ok1D;rw[hf,Bool.and_false]
theorem e0s (a:Option Addr)(c:Nat)(l:List El)(w:World)(hl:DRow w a l)(ln:l.length≤1048576) :
    Calls Tryz.prog 172 #[.slice a l.length c] w fun e w'=>e = .returned (.bool (rightD l))∧Below w.heap.size w w':=by
 refine' qz7k;clear hl;by_cases h0:l.length<1
 · have HY:=Lib.hid (t0s (l:=l) (by omega))
   refine' qz67;exact⟨g0a HY.out.symm,Below.refl _ _⟩
 by_cases h1:255<l.length
 · have HY:=Lib.hid (t0s (l:=l) (by omega))
   refine' qz67;exact⟨g0a HY.out.symm,Below.refl _ _⟩
 have HY:=Lib.hid (r1h (l:=l) (by omega))
 go_in;go_wp2;clear h0 h1
 go_loopw [15] (fun i wr=>∃ k:Nat,k≤l.length∧i = .int .i64 k∧Hid (okD (l.take k)=true)∧Hid (Below w.heap.size w wr)) (fun i _=>l.length - (intOf i).toNat)
 case atStart=>exact⟨0,Nat.zero_le _,rfl,Lib.hid rfl,Lib.hid (Below.refl _ _)⟩
 case round=>
  obtain⟨k,hk,rfl,HN,HR⟩:=hrel;by_cases hlt:k<l.length
  · obtain⟨p,rfl,hp,c0,c1⟩:=(HL.out.below HR.out) k hlt;have HT:=Lib.hid (k1k l k hlt);have HF:=Lib.hid (g1l l k hlt);rw[add_one]at c1;refine' qz11;obtain⟨d,n⟩:=u;have HX:=Lib.hid (Bk.Bk.new 48 wr (cellsD (d,n)));have HR:=Lib.hid (HR.out.alloc HR.out.size (.cells (cellsD (d,n)) 48));simp only[]at c0 c1;refine' qzcp;change Code.wp _ _ _ _ (wr.alloc (.cells (cellsD (d,n)) 48));generalize wr.alloc (.cells (cellsD (d,n)) 48)=W at *;generalize wr.heap.size=q at *;clear c0 c1 hp;have c0:=HX.out.cell 0 (.string d) rfl;have c1:=HX.out.cell 1 (.int .i64 n) rfl;have PF:=Lib.hid (Oct.k0b n 4 W);by_cases h4:d.size=4;rotate_left
    · have h4':((d.size:Int)==4)=false:=by rw[beq_eq_false_iff_ne];omega
      refine' qzj
      exact⟨g0a (by rw[HY.out,HF.out (v1k d n h4)]),HR.out⟩
    have h4':(d.size:Int)=4:=by omega
    cases hf:fitsB n 4
    · rw[hf]at PF;refine' qzg;refine(PF.out).mono ?_;refine' qz2g;refine' qzj
      exact⟨g0a (by rw[HY.out,HF.out (w1n d n hf)]),HR.out⟩
    rw[hf]at PF;refine' qzg;refine(PF.out).mono ?_;refine' qz2g;go_wp2;go_roundw
    case rel=>exact⟨k+1,hlt,by go_num,Lib.hid (by rw[HT.out,HN.out,n0k d n h4 hf];rfl),HR⟩
    case measure=>simp[intOf];omega
  · refine' qz12;rw[List.take_length]at HN;refine' qzj
    exact⟨g0a (by rw[HY.out,HN.out]),HR.out⟩
theorem l0a (m:M)(w:World)(hm:m.In w)(lb:∀ x∈m.sl,x.1.size≤1099511627776):Calls Tryz.prog 101 #[.agg m.cells] w fun e w'=>e = .returned (.bool (okE m))∧Below w.heap.size w w':=by
 refine' qz40;have HY:=Lib.hid (ok_eq m)
 have P1:=Lib.hid (fun V (h:m.In V)=>Bare.z0c m V h)
 rw[l0g]at P1
 have P2:=Lib.hid (fun V (h:m.In V)=>e0s m.la m.lc m.ll V h.d h.dl)
 have P3:=Lib.hid (fun V (h:m.In V)=>Xp.l0a m.sa m.sc m.sl V h.s h.sl lb)
 clear lb hm;generalize okE m=y at *;generalize bare m=x1 at *;generalize rightD m.ll=x2 at *;generalize okX m.sl=x3 at *;refine' qz2m;refine' qz55;refine' qz2;by_cases hk:m.kind=5;rotate_left
 · rw[decide_eq_false hk]at HY;refine' qzj;exact⟨g0a HY.out.symm,HF.out.bel⟩
 rw[decide_eq_true hk]at HY;cases x1
 · refine' qzf;refine' qzr;clear hb c15 c21 c24;refine' qz55;refine' qz4;refine' qz3j
 by_cases f0:0≤m.flags;rotate_left
 · rw[decide_eq_false (p:=0≤m.flags∧m.flags≤1) (fun h=>f0 h.1)]at HY
   refine' qzf;refine' qzr;clear hb c15 c21 c24;refine' qz55;refine' qz4;refine' qz3j
 by_cases f1:m.flags≤1;rotate_left
 · rw[decide_eq_false (p:=0≤m.flags∧m.flags≤1) (fun h=>f1 h.2)]at HY
   refine' qzf;refine' qzr;clear hb c15 c21 c24;refine' qz55;refine' qz4;refine' qz3j
 rw[decide_eq_true (p:=0≤m.flags∧m.flags≤1) ⟨f0,f1⟩]at HY;cases x2
 · refine' qzf;refine' qzr;clear hb c15 c21 c24;refine' qz55;refine' qz4;refine' qzcz;refine' qzr;clear hb c15 c21 c24;refine' qz55;refine' qz4;refine' qz3j
 refine' qzf;refine' qzr;clear hb c15 c21 c24;refine' qz55;refine' qz4;refine' qzcz;refine' qzr;clear hb c15 c21 c24;refine' qz55;refine' qz4;refine' qzcu;refine' qzr;clear hb c15 c21 c24;refine' qz55;refine' qz4;refine' qz3j
end Y2
namespace Y5
open Ms Box Xv
open Xp (to8 putS t0b Bld.lt Bld.below)
open Sb (Bld)
open Bk (Bk)
open Ds (cellsD)
open Y1 Y2 Am Hs Hy Nu
open Oct (fitsB)
open Go.Proofs.YtllhobicfclheaaGreatDoor.Or (p0a)
theorem p0e (v:Int)(k:Nat):(⟨(layN v k).toArray⟩:ByteArray).size≤k:=by show(layN v k).toArray.size≤k;simpa using i0a v k
theorem a0k {l:List El}(h:okD l=true)(ln:l.length≤255)(k:Nat):(encD (l.take k)).length≤2040:=by
 have h2:okD (l.take k)=true:=by
  unfold okD;rw[List.all_eq_true]
  exact fun x hx=>w0t h x (List.mem_of_mem_take hx)
 rw[t0j h2,List.length_take];omega
theorem o1f (a:Option Addr)(c:Nat)(l:List El)(w:World)(hl:DRow w a l)(ln:l.length≤255)(hok:okD l=true) :
    Calls Tryz.prog 240 #[.slice a l.length c] w fun e w'=>e = .returned (.string ⟨(encD l).toArray⟩)∧Below w.heap.size w w':=by
 refine' qz7k;have HM:=Lib.hid (w0t hok);have HN:=Lib.hid (a0k hok ln);have HLn:=Lib.hid ln
 have ln2:(l.length:Int)≤255:=by omega
 have HGr:=Lib.hid (fun B g V h1 h2 h3=>Tryz.Builder_Grow_fresh B g (l.length*8) V h1 h2 h3 (by omega))
 simp only[Int.natCast_mul,Int.cast_ofNat_Int]at HGr;clear hok ln hl;refine' qzb8;have HG:=Lib.hid (Bk.Bk.new 131 w #[.pointer none,.slice none 0 0]);have HB:=Lib.hid ((Below.refl w.heap.size w).alloc (Nat.le_refl _) (.cells #[.pointer none,.slice none 0 0] 131));generalize w.alloc (.cells #[.pointer none,.slice none 0 0] 131)=W at *;refine' qzg;refine(HGr.out w.heap.size w.heap.size W (Nat.le_refl _) HG.out HB.out.size).mono ?_;rintro e w3 ⟨rfl,hgb,hb⟩;have HW:Hid (Bld w.heap.size w.heap.size (encD (l.take 0)) w3):=Lib.hid (.inr hgb);have HB:=Lib.hid (HB.out.trans hb);clear hb hgb HG HGr;go_wp2
 go_loopw [14] (fun i wr=>∃ k:Nat,k≤l.length∧i = .int .i64 k∧Hid (Bld w.heap.size w.heap.size (encD (l.take k)) wr)∧Hid (Below w.heap.size w wr)) (fun i _=>l.length - (intOf i).toNat)
 case atStart=>exact⟨0,Nat.zero_le _,rfl,HW,HB⟩
 case round=>
  obtain⟨k,hk,rfl,HD,HR⟩:=hrel;clear HW HB;by_cases hlt:k<l.length
  · obtain⟨p,rfl,hp,c0,c1⟩:=(HL.out.below HR.out) k hlt;have HT:=Lib.hid (m1d l k hlt);have hm:=HM.out _ (List.getElem_mem hlt);have hlen:=HN.out k;rw[add_one]at c1;refine' qz11;generalize encD (l.take k)=bs at *;obtain⟨d,n⟩:=u;obtain⟨h4,hf⟩:=a0o hm;simp only[]at h4 hf c0 c1
    have HT:Hid (encD (l.take (k+1))=bs++d.data.toList++(⟨(layN n 4).toArray⟩:ByteArray).data.toList):=Lib.hid (by
     rw[HT.out,List.append_assoc]
     simp[j0k])
    have PO:=Lib.hid (fun V=>s0c n 4 4 rfl (by omega) (by omega) V)
    have hz4:=p0e n 4;generalize (⟨(layN n 4).toArray⟩:ByteArray)=t at *;generalize fitsB n 4=ft at *;have hl1:=Lib.hid hlen
    have hz5:=Lib.hid (show d.size=4∧t.size≤4 from⟨h4,hz4⟩)
    have HDo:=HD;clear hlen hm h4 hz4;have HX:=Lib.hid (Bk.Bk.new 48 wr (cellsD (d,n)));have HD:=Lib.hid (Bld.below HD.out (balloc (Below.refl _ wr) (.cells (cellsD (d,n)) 48)))
    have HG:Hid (wr.heap.size≠w.heap.size):=Lib.hid (by have:=Bld.lt HDo.out;omega)
    have HR:=Lib.hid (HR.out.alloc HR.out.size (.cells (cellsD (d,n)) 48));clear HDo;refine' qzcp;change Code.wp _ _ _ _ (wr.alloc (.cells (cellsD (d,n)) 48));generalize wr.alloc (.cells (cellsD (d,n)) 48)=W at *;generalize wr.heap.size=q at *;clear c0 c1 hp;have c1:=HX.out.cell 1 (.int .i64 n) rfl;refine' qzg;refine(PO.out _).mono ?_;rintro e w4 ⟨rfl,hb⟩;have HX:=Lib.hid (HX.out.below hb);have HD:=Lib.hid (Bld.below HD.out hb);have HR:=Lib.hid (HR.out.trans (hb.mono HR.out.size));clear hb PO c1;have c0:=HX.out.cell 0 (.string d) rfl;refine' qzg
    refine(Sb.t0f w.heap.size w.heap.size bs d _ HD.out (by have:=hl1.out;have:=hz5.out;omega) HR.out.size).mono ?_
    rintro e w5 ⟨rfl,hd,hb,ho⟩;have HD:=Lib.hid hd;have HR:=Lib.hid (HR.out.trans hb);clear hd hb ho c0 HX;refine' qzg
    refine(Sb.t0f w.heap.size w.heap.size _ t _ HD.out (by have:=hl1.out;have:=hz5.out;simp;omega) HR.out.size).mono ?_
    rintro e w6 ⟨rfl,hd,hb,ho⟩
    have HD:Hid (Bld w.heap.size w.heap.size (encD (l.take (k+1))) w6):=Lib.hid (by
     rw[HT.out]
     exact hd)
    have HR:=Lib.hid (HR.out.trans hb);clear hd hb ho;refine' qzbf
  · refine' qz12;rw[List.take_length]at HD;refine' qzg;refine(Sb.x0b w.heap.size w.heap.size _ wr HD.out HR.out.size).mono ?_;rintro e w4 ⟨rfl,hb⟩;have HR:=Lib.hid (HR.out.trans hb);clear hb HD;refine' qzj;exact⟨rfl,HR.out⟩
theorem g0f (c d:UInt8)(w:World):(convert 96 9 (.slice (some ⟨w.heap.size,0,none⟩) 4 4)).run Tryz.prog (w.alloc (.cells #[.int .u8 3,.int .u8 (c.toNat:Int),.int .u8 0,.int .u8 (d.toNat:Int)] 5)) = .ok (.string ⟨#[3,c,0,d]⟩) (w.alloc (.cells #[.int .u8 3,.int .u8 (c.toNat:Int),.int .u8 0,.int .u8 (d.toNat:Int)] 5)):=by
 refine run_convert_bytes_back _ 96 9 5 ⟨w.heap.size,0,none⟩ 4 [3,c,0,d] Tryz.underlying96 Tryz.underlying5 Tryz.underlying9 fun j hj=>?_
 have hB:=Bk.Bk.new 5 w #[.int .u8 3,.int .u8 (c.toNat:Int),.int .u8 0,.int .u8 (d.toNat:Int)];refine' qz6p
theorem z0i {n:Int}(h:0≤n):UInt8.ofNat (n*128).toNat=UInt8.ofNat (128*n.toNat):=by
 have:(n*128).toNat=128*n.toNat:=by omega
 rw[this]
theorem l1e (m:M)(hx:okX m.sl=true):(⟨#[3,UInt8.ofNat (128*m.flags.toNat),0,UInt8.ofNat m.ll.length]⟩:ByteArray)++⟨(encD m.ll).toArray⟩++putS m.sl=⟨(encE m).toArray⟩:=by
 rw[Xp.q0d hx];refine k0a ?_;simp[encE,hd,ByteArray.data_append]
theorem x1e {m:M}(hx:okX m.sl=true)(ln:m.sl.length≤2000):(putS m.sl).size≤514000:=by
 rw[Xp.q0d hx]
 show(encX m.sl).length≤_
 rw[b0g];have:=z0g hx;omega
theorem c0b (m:M)(w:World)(hm:m.In w)(ln:m.sl.length≤2000)(lb:∀ x∈m.sl,x.1.size≤1099511627776) :
    Calls Tryz.prog 178 #[.agg m.cells] w fun e w'=>e = .returned (.tuple #[.string (putE m),.bool (okE m)])∧Below w.heap.size w w':=by
 refine' qz40;refine' qz8h;by_cases hok:okE m=true;rotate_left
 · have hok:okE m=false:=by simpa using hok
   have HP:=Lib.hid (w1a hok);have HK:=Lib.hid hok;rw[hok]at P1;clear hok lb P2 hm;refine' qz2f;refine' qz39;refine' qz77;clear hb;refine' qz2w;exact⟨t0b HP.out.symm HK.out.symm,HF.out.bel⟩
 obtain⟨-,-,hn,hd',hx⟩:=(x0a m).1 hok;obtain⟨f0,f1,n0,n1⟩:=(a0d m).1 hn
 have P3:=Lib.hid (fun V (h:m.In V)=>o1f m.la m.lc m.ll V h.d n1 hd')
 have HP:=Lib.hid (x0i hok);have HK:=Lib.hid hok;have HE:=Lib.hid (l1e m hx)
 have v1:=to8 (m.flags*128) (by omega) (by omega)
 have v2:=to8 (m.ll.length:Int) (by omega) (by omega)
 rw[z0i f0]at v1;rw[Int.toNat_natCast]at v2
 have z1:(⟨(encD m.ll).toArray⟩:ByteArray).size≤2040:=by
  show(encD m.ll).toArray.size≤_
  rw[List.size_toArray,t0j hd'];omega
 have z2:=x1e hx ln
 have n2:(m.ll.length:Int)≤255:=by omega
 rw[hok]at P1;rw[hx]at P2;generalize (⟨(encD m.ll).toArray⟩:ByteArray)=t1 at *;generalize putS m.sl=t2 at *;generalize UInt8.ofNat (128*m.flags.toNat)=cf at *;generalize UInt8.ofNat m.ll.length=cn at *;clear hok lb hx hm hn hd' n1;refine' qz2f;refine' qz39;refine' qz77;clear hb P1;refine' qz55;have cv:=g0f cf cn V1;refine' qzco;have HF:=Lib.hid (HF.out.call (balloc (Below.refl _ V1) (.cells #[.int .u8 3,.int .u8 (cf.toNat:Int),.int .u8 0,.int .u8 (cn.toNat:Int)] 5)));clear cv c15 c21 v1 v2 f0 f1;change Code.wp _ _ _ _ (V1.alloc (.cells #[.int .u8 3,.int .u8 (cf.toNat:Int),.int .u8 0,.int .u8 (cn.toNat:Int)] 5));generalize V1.alloc (.cells #[.int .u8 3,.int .u8 (cf.toNat:Int),.int .u8 0,.int .u8 (cn.toNat:Int)] 5)=V2 at *;have z0:(⟨#[3,cf,0,cn]⟩:ByteArray).size=4:=rfl;generalize (⟨#[3,cf,0,cn]⟩:ByteArray)=t0 at *;refine' qz2;refine' qzg;refine' qzcz;rintro e V3 ⟨rfl,hb⟩;refine' qzq;clear hb P2 c24;have c21:=HF.out.m.cs.c21;refine' qzg;refine' qzcu;rintro e V4 ⟨rfl,hb⟩;refine' qzq;clear hb P3 c21;refine' qz2w;exact⟨t0b (HE.out.trans HP.out.symm) HK.out.symm,HF.out.bel⟩
end Y5
namespace Y6
open Ms Box Xv Y1 Am Hs
open Go.Proofs.YtllhobicfclheaaGreatDoor.Or (p0a)
open Hx (r0c)
open Own (k5 ownM)
theorem b1h {m:M}(h:m.kind=5):okE m=(M.same m { k5 m with kind:=5}&&(nums m&&(okD m.ll&&okX m.sl))):=by
 unfold okE bare;rw[(e0l h).1,(e0l h).2,decide_eq_true h];rfl
theorem q0l {m:M}(h:¬m.kind=5):okE m=false:=by
 unfold okE;rw[decide_eq_false h];rfl
theorem k0k {n m:M}(h:Pl n m):okE n=okE m:=by
 have hk:n.kind=m.kind:=by rw[show n=_ from h]
 by_cases h5:m.kind=5
 · rw[b1h h5,b1h (hk.trans h5),show n=_ from h]
   rfl
 rw[q0l h5,q0l (by omega)]
theorem r0q {n m:M}(h:Pl n m):encE n=encE m:=by
 rw[show n=_ from h]
 rfl
theorem q0p {n m:M}(h:Pl n m):putE n=putE m:=by
 unfold putE;rw[k0k h,r0q h]
theorem s0r {s:ByteArray}(n:Nat):(outX (s.extract n s.size)).1.length≤s.size:=by
 have:=k0g (s.extract n s.size)
 have h2:(s.extract n s.size).size≤s.size:=by simp
 omega
theorem p0i (s:ByteArray):(outE s).1.ll.length≤255∧(outE s).1.sl.length≤s.size:=by
 rcases head_cases s with⟨i,e,h,he,_,_⟩|⟨r,n,h,_,_,hr,_⟩
 · rw[w0d h he];exact⟨Nat.zero_le _,Nat.zero_le _⟩
 have hl:=s0r (s:=s) n;refine' qzd7;rw[hX]at hl;by_cases hx:x=0
 · subst hx;rw[Y1.u0a h hX];refine⟨?_,hl⟩;rw[hr]
   show(dests (cnt s) (s.data.toList.drop 4)).length≤255
   rw[z0e];have:=x0u s;omega
 · rw[r0f h hX hx];exact⟨Nat.zero_le _,Nat.zero_le _⟩
theorem d0o {m:M}(h:okE m=true):({ ownM m with la:=none,lc:=0,sa:=none,sc:=0}:M).ll=m.ll∧({ ownM m with la:=none,lc:=0,sa:=none,sc:=0}:M).sl=m.sl∧M.same m { ownM m with la:=none,lc:=0,sa:=none,sc:=0}=true:=by
 obtain⟨hk,hb,_⟩:=(x0a m).1 h
 have hs:M.same m (ownM m)=true:=by
  unfold bare at hb;rw[Bool.and_eq_true]at hb;exact hb.2
 rw[(e0l hk).2]at hs⊢;exact⟨rfl,rfl,hs⟩
theorem first_of {m:M}(h:okE m=true):bt (putE m) 0=3:=by
 rw[x0i h];rfl
theorem q0f {m:M}(h:okE m=true):outE (putE m)=({ ownM m with la:=none,lc:=0,sa:=none,sc:=0},0,0):=by
 rw[x0i h];exact k0c m h
theorem i0l {s:ByteArray}(h:(outE s).2.2=0)(h0:bt s 0=3):okE (outE s).1=true∧putE (outE s).1=s∧(outE s).2.1=0:=by
 rcases Y1.out_cases s with⟨h1,_⟩|⟨h1,_,h2⟩
 · exact absurd h h1
 · obtain⟨h3,h4⟩:=h2 h0;refine⟨h3,?_,h1⟩;rw[x0i h3]
   exact Nu.k0a (by rw[←h4])
end Y6
end Go.Proofs.YtllhobicfclheaaGreatDoor
