/-
  A part of a proof. No conditions.
-/
import Derived.Test.YtllhobicfclheaaGreatDoorY33
namespace Go.Proofs.YtllhobicfclheaaGreatDoor
open Go.ChangeShapes Go.WideShapes Go.ChangeAt Go.RowKit
set_option linter.unusedVariables false
set_option maxRecDepth 100000
set_option maxHeartbeats 51200000
namespace Lw
open Ms Box An
open Nu (layN k0a n0a)
open S1 (okS putS m0g)
open J1
open J2 (nil_eq k0f)
open K1 Kb
open K2 (n0l)
open Pre (leadN leastN cutL)
open L1 L2 L4 Cx
open F1 (enc1 ok1 w0e putO)
open F6 (y0d PutIs)
open F2 (sl_l)
open Bk (Bk b0a o0a loadVarK)
open Js (Lst j0c f0d z0a)
open Hs Hy
open Go.Proofs.YtllhobicfclheaaGreatDoor.Or (p0a)
open L6
def wayP (c:Kx)(m:M):List ByteArray×Kx×Int:=if badC c m=true then([],c,9)else(elB (wayE c m),wayC c m,0)
theorem m0p (c:Kx)(m:M)(w:World)(hm:m.In w)(hc:okC c=true)(h:okU m=true):Calls Tryz.prog 332 #[.agg c.cells,.agg m.cells] w (AnsW (wayP c m) w):=by
 have o:=(m0c m).1 h;obtain⟨a0,a1,_,_⟩:=q0b (r0b o.pfx).1
 have P1:=Lib.hid (fun V=>n0l m.ae V)
 by_cases hf:m.metric=65535
 · have HY:=Lib.hid (show wayP c m=([],c,0) by
    unfold wayP badC wayE wayC;rw[if_pos hf,if_pos hf,decide_eq_true hf]
    simp[elB])
   refine' qzi;refine' qz3w;refine' qz1a;refine' qz7h;refine' qz6x;rw[hf]at c10;clear hf o a0 a1 hc h;refine' qzc7;refine' qzcn;clear c5 c9 c10 c11;refine' qz3g;refine' qz7d;refine H.tk (i:=0) (v := .agg (Kx.cells c)) ?h0x1f1 hS ?_
   case h0x1f1=>exact(fun w hw=>o0a shX (x := .tmp 2) rfl rfl hw rfl)
   refine' qz7i;refine' qz1c;refine' qz27;refine' qz3b
   try simp only[Act.put]
   refine H.tk (i:=3) (v:=(Value.int IntKind.i64 0)) (fun w _=>rfl) hS ?_
   refine' qz1;refine' qz38
 have e10:(m.metric==65535)=false:=by simpa using hf
 obtain⟨w1,w2,_⟩:=u0f o.way hf
 obtain⟨k,hk2,hk⟩:∃ k:Nat,k<2∧fam m.ae=k:=by
  unfold fam
  rcases(show m.ae=1∨m.ae=2∨m.ae=3 by omega)with e|e|e
  · exact⟨0,by decide,by rw[e];rfl⟩
  · exact⟨1,by decide,by rw[e];rfl⟩
  · exact⟨1,by decide,by rw[e];rfl⟩
 have nm1:=nil_eq m.next
 have nm2:=k0f m.next
 have nc1:=nil_eq (c.nx k);have nc2:=k0f (c.nx k);rw[hk]at P1;cases hb:badC c m;rotate_left
 · have HY:=Lib.hid (show wayP c m=([],c,9) by unfold wayP;rw[hb,if_pos rfl])
   have hbb:m.next.size=0∧¬(c.nx k).size=0:=by
    unfold badC at hb;rw[hk]at hb;simp only[Bool.and_eq_true,Bool.not_eq_true',decide_eq_true_eq,decide_eq_false_iff_not]at hb;exact hb.2.2
   rw[decide_eq_true hbb.1]at nm1 nm2;rw[decide_eq_false hbb.2]at nc1 nc2;refine' qzi;refine' qz3w;refine' qz1a;refine' qz7h;refine' qzcl;clear hf o a0 a1 hc h hb hbb hk w1 w2;refine' qzc7
   go_upto_region 5 with(first|(refine p0a (v := .pointer (some ⟨w.heap.size,4+k,none⟩)) (by rfl) rfl (f0e rfl rfl rfl (c0j w.heap.size k hk2 _)) ?_))
   clear c5 c9 c10 c11 n0 nm1 nm2 nc1 nc2 e10;refine' qz3g;refine' qz7d;refine H.tk (i:=0) (v := .agg (Kx.cells c)) ?h0x1f2 hS ?_
   case h0x1f2=>exact(fun w hw=>o0a shX (x := .tmp 2) rfl rfl hw rfl)
   refine' qz7i;refine' qz1c;refine' qz27;refine' qz3b
   try simp only[Act.put]
   refine H.tk (i:=3) (v:=(Value.int IntKind.i64 9)) (fun w _=>rfl) hS ?_
   refine' qz1;refine' qz7j
 have P2:=Lib.hid (fun V=>r1q m.id V w2)
 have hnn:=near_next h hf hb;have qi:=m1b m.id c.id
 have qn:=m1b m.next (c.nx k)
 have hwp:wayP c m=(elB (wayE c m),wayC c m,0):=by unfold wayP;rw[hb,if_neg (by decide)]
 unfold wayE wayC at hwp;rw[if_neg hf,if_neg hf]at hwp;rw[hk]at hwp hnn
 have hss:m.next=c.nx k→({ c with id:=m.id}:Kx).setN k m.next={ c with id:=m.id}:=fun e=>by rw[←hk];rw[←hk]at e;exact k0q e
 have hbo:m.next.size=0→(c.nx k).size=0:=fun e=>by
  unfold badC at hb;rw[hk,decide_eq_true o.kind,decide_eq_false hf,decide_eq_true e]at hb;simpa using hb
 clear o a0 a1 hc hb hf h w1 w2 hk
 by_cases hz:m.next.size=0
 · have hn:m.next=c.nx k:=by rw[y0f hz,y0f (hbo hz)]
   by_cases hi:m.id=c.id
   · rw[decide_eq_true hz]at nm1 nm2;rw[decide_eq_true (hbo hz)]at nc1 nc2;rw[decide_eq_true hi]at qi;rw[decide_eq_true hn]at qn;rw[if_pos hi,if_pos hn]at hwp;rw[hss hn]at hwp
     rw[show({ c with id:=m.id}:Kx)=c by rw[hi]]at hwp
     rw[show elB ([] ++ []) = []from rfl]at hwp
     refine' qza0;refine' qzi;refine' qz3w;refine' qz1a;refine' qz7h;refine' qzcl;refine' qz4h;refine' qzc7;refine' qz23
     go_upto_region 10 with fail
     clear c9 c11 n0 i0 qi;refine' qzcb;clear D;generalize V.drew=V at *;refine H.tk (i:=0) (v:=?v0x1ar) ?h0x1ar hS ?_
     case h0x1ar=>(intro w hw;go_simp;first|done|(with_reducible rfl))
     refine' qz0;refine H.tk (i:=1) (v:=?v1x2ar) ?h1x2ar hS ?_
     case h1x2ar=>(intro w hw;have c:=(hw.m0).cs.c9;go_simp;first|done|(with_reducible rfl))
     refine' qz0;refine H.tk (i:=2) (v:=?v2x3ar) ?h2x3ar hS ?_
     case h2x3ar=>(intro w hw;go_simp;first|done|(with_reducible rfl))
     refine' qz0;refine H.tk (i:=3) (v:=?v3x4ar) ?h3x4ar hS ?_
     case h3x4ar=>(intro w hw;go_simp;first|done|(with_reducible rfl))
     refine' qz0;refine H.tk (i:=4) (v := .pointer (some ⟨w.heap.size,4+k,none⟩)) ?h4x5ar hS ?_
     case h4x5ar=>exact(fun w1 hw=>f0e (vx := .pointer (some ⟨w.heap.size,4,none⟩)) (vy := .int .i64 (k:Int)) rfl rfl rfl (c0j _ _ hk2 _))
     refine' qz0;refine H.tk (i:=5) (v:=?v5x6ar) ?h5x6ar hS ?_
     case h5x6ar=>(intro w hw;have c:_=some (Value.string (c.nx k)):=n0m hw.s0 hk2;go_simp;first|done|(with_reducible rfl))
     refine' qz0;refine H.tk (i:=6) (v:=?v6x7ar) ?h6x7ar hS ?_
     case h6x7ar=>(intro w hw;go_simp;first|done|(with_reducible rfl))
     refine' qz1;have D:=Lib.hid hS
     go_upto_region 13 with fail
     clear hS
     have HY:=Lib.hid (show wayP c m=([],c,0) by rw[HY.out]<;>rfl)
     refine' qz3g;refine' qz7d;refine H.tk (i:=0) (v := .slice none 0 0) ?h0x1af hS ?_
     case h0x1af=>exact(fun w hw=>by go_simp)
     refine' qz0;refine H.tk (i:=1) (v := .agg (Kx.cells c)) ?h1x2af hS ?_
     case h1x2af=>exact(fun w hw=>o0a shX (x := .tmp 2) rfl rfl hw rfl)
     refine' qz0;refine H.tk (i:=2) (v:=?v2x3af) ?h2x3af hS ?_
     case h2x3af=>(intro w hw;go_simp;first|done|(with_reducible rfl))
     refine' qz5;refine' qz27;refine' qz3b;refine' qz2s;refine' qz1;refine' qz38
   · rw[decide_eq_true hz]at nm1 nm2;rw[decide_eq_true (hbo hz)]at nc1 nc2;rw[decide_eq_false hi]at qi;rw[decide_eq_true hn]at qn;rw[if_neg hi,if_pos hn]at hwp;rw[hss hn]at hwp
     rw[show elB ([(idD m.id,6)] ++ []) = [⟨(enc1 (idD m.id,6)).toArray⟩]from rfl]at hwp
     refine' qza0;generalize (⟨(enc1 (idD m.id,6)).toArray⟩:ByteArray)=x1 at *;refine' qzi;refine' qz3w;refine' qz1a;refine' qz7h;refine' qzcl;refine' qz4h;refine' qzc7;refine' qz23;refine' qzg;clear c9 c11 n0 i0 qi;refine' qzs;refine' qzc8;refine' qz7;clear hb;refine' qzc4;refine' qz4f;have hzz:=D.out.bel.size;refine' qz3o;intro v' w2 hl hb hz;refine' qz3y;obtain⟨ls,hls⟩:∃ l,l = [x1]:=⟨_,rfl⟩;rw[←hls]at hl;have HQ1:=Lib.hid hls;refine' qz7l;clear hl hb hz bel hls hzz hz3;have c11:=D.out.m0.cs.c11;have d:=D.out.s0.cell 6 (.string c.id) rfl;have fd:=D.out.s0.frozen 6
     go_upto_region 10 with fail
     refine' qzc5;refine' qz4d;generalize w2.setCell ⟨w.heap.size,6,none⟩ (.string m.id)=V at *;refine' qz9z;clear D;generalize V.drew=V at *;refine H.tk (i:=0) (v:=?v0x1br) ?h0x1br hS ?_
     case h0x1br=>(intro w hw;go_simp;first|done|(with_reducible rfl))
     refine' qz0;refine H.tk (i:=1) (v:=?v1x2br) ?h1x2br hS ?_
     case h1x2br=>(intro w hw;have c:=(hw.m0).cs.c9;go_simp;first|done|(with_reducible rfl))
     refine' qz0;refine H.tk (i:=2) (v:=?v2x3br) ?h2x3br hS ?_
     case h2x3br=>(intro w hw;go_simp;first|done|(with_reducible rfl))
     refine' qz0;refine H.tk (i:=3) (v:=?v3x4br) ?h3x4br hS ?_
     case h3x4br=>(intro w hw;go_simp;first|done|(with_reducible rfl))
     refine' qz0;refine H.tk (i:=4) (v := .pointer (some ⟨w.heap.size,4+k,none⟩)) ?h4x5br hS ?_
     case h4x5br=>exact(fun w1 hw=>f0e (vx := .pointer (some ⟨w.heap.size,4,none⟩)) (vy := .int .i64 (k:Int)) rfl rfl rfl (c0j _ _ hk2 _))
     refine' qz0;refine H.tk (i:=5) (v:=?v5x6br) ?h5x6br hS ?_
     case h5x6br=>(intro w hw;have c:_=some (Value.string (c.nx k)):=n0m hw.s0 hk2;go_simp;first|done|(with_reducible rfl))
     refine' qz0;refine H.tk (i:=6) (v:=?v6x7br) ?h6x7br hS ?_
     case h6x7br=>(intro w hw;go_simp;first|done|(with_reducible rfl))
     refine' qz1;have D:=Lib.hid hS
     go_upto_region 13 with fail
     clear hS
     have HY:=Lib.hid (show wayP c m=(ls,{ c with id:=m.id},0) by rw[HY.out,HQ1.out]<;>rfl)
     refine' qz7z
     refine wp_region_held_drew (S:=fun X=>Bk 74 X w.heap.size (Kx.cells ({ c with id:=m.id}))) (by kernel_rfl) (D.out.s0) (fun hS=>?_)
     refine' qz7d;refine H.tk (i:=0) (v := .slice qa ls.length qk) ?h0x1bf hS ?_
     case h0x1bf=>exact(fun w hw=>by go_simp)
     refine' qz0
     refine H.tk (i:=1) (v := .agg (Kx.cells ({ c with id:=m.id}))) ?h1x2bf hS ?_
     case h1x2bf=>exact(fun w hw=>o0a shX (x := .tmp 2) rfl rfl hw rfl)
     refine' qz0;refine H.tk (i:=2) (v:=?v2x3bf) ?h2x3bf hS ?_
     case h2x3bf=>(intro w hw;go_simp;first|done|(with_reducible rfl))
     refine' qz5
     refine wp_store_row 74 _ _ rfl (w.heap.size+1+1) (Kx.cells ({ c with id:=m.id})) rfl rfl 74 Kx.zero.cells R0.out infoX rfl (oneX _) ?_
     refine' qz79
     have hS:=(show Bk 74 (Z0.setRow (w.heap.size+1+1) (Kx.cells ({ c with id:=m.id}))) w.heap.size (Kx.cells ({ c with id:=m.id}))from hS.row (by omega) _)
     refine' qz2s;refine' qz1;refine' qz4u
 by_cases hi:m.id=c.id
 · by_cases hn:m.next=c.nx k
   · rw[decide_eq_false hz]at nm1 nm2;rw[decide_eq_true hi]at qi;rw[decide_eq_true hn]at qn;rw[if_pos hi,if_pos hn]at hwp;rw[hss hn]at hwp
     rw[show({ c with id:=m.id}:Kx)=c by rw[hi]]at hwp
     rw[show elB ([] ++ []) = []from rfl]at hwp
     refine' qza0;refine' qzi;refine' qz3w;refine' qz1a;refine' qz7h;refine' qzcl;refine' qz4h;refine' qzc7;refine' qz23
     go_upto_region 10 with fail
     clear c9 c11 n0 i0 qi;refine' qzcb;clear D;generalize V.drew=V at *;refine H.tk (i:=0) (v:=?v0x1cr) ?h0x1cr hS ?_
     case h0x1cr=>(intro w hw;go_simp;first|done|(with_reducible rfl))
     refine' qz0;refine H.tk (i:=1) (v:=?v1x2cr) ?h1x2cr hS ?_
     case h1x2cr=>(intro w hw;have c:=(hw.m0).cs.c9;go_simp;first|done|(with_reducible rfl))
     refine' qz0;refine H.tk (i:=2) (v:=?v2x3cr) ?h2x3cr hS ?_
     case h2x3cr=>(intro w hw;go_simp;first|done|(with_reducible rfl))
     refine' qz0;refine H.tk (i:=3) (v:=?v3x4cr) ?h3x4cr hS ?_
     case h3x4cr=>(intro w hw;go_simp;first|done|(with_reducible rfl))
     refine' qz0;refine H.tk (i:=4) (v := .pointer (some ⟨w.heap.size,4+k,none⟩)) ?h4x5cr hS ?_
     case h4x5cr=>exact(fun w1 hw=>f0e (vx := .pointer (some ⟨w.heap.size,4,none⟩)) (vy := .int .i64 (k:Int)) rfl rfl rfl (c0j _ _ hk2 _))
     refine' qz0;refine H.tk (i:=5) (v:=?v5x6cr) ?h5x6cr hS ?_
     case h5x6cr=>(intro w hw;have c:_=some (Value.string (c.nx k)):=n0m hw.s0 hk2;go_simp;first|done|(with_reducible rfl))
     refine' qz0;refine H.tk (i:=6) (v:=?v6x7cr) ?h6x7cr hS ?_
     case h6x7cr=>(intro w hw;go_simp;first|done|(with_reducible rfl))
     refine' qz1;have D:=Lib.hid hS
     go_upto_region 13 with fail
     clear hS
     have HY:=Lib.hid (show wayP c m=([],c,0) by rw[HY.out]<;>rfl)
     refine' qz3g;refine' qz7d;refine H.tk (i:=0) (v := .slice none 0 0) ?h0x1cf hS ?_
     case h0x1cf=>exact(fun w hw=>by go_simp)
     refine' qz0;refine H.tk (i:=1) (v := .agg (Kx.cells c)) ?h1x2cf hS ?_
     case h1x2cf=>exact(fun w hw=>o0a shX (x := .tmp 2) rfl rfl hw rfl)
     refine' qz0;refine H.tk (i:=2) (v:=?v2x3cf) ?h2x3cf hS ?_
     case h2x3cf=>(intro w hw;go_simp;first|done|(with_reducible rfl))
     refine' qz5;refine' qz27;refine' qz3b;refine' qz2s;refine' qz1;refine' qz38
   · rw[decide_eq_false hz]at nm1 nm2;rw[decide_eq_true hi]at qi;rw[decide_eq_false hn]at qn;rw[if_pos hi,if_neg hn]at hwp
     rw[show({ c with id:=m.id}:Kx)=c by rw[hi]]at hwp
     have P3:=Lib.hid (fun V=>z0o m.next V (by rcases hnn with e|e;exact absurd e hn;exact e.1))
     rw[show elB ([] ++ [(hopD m.next,7)]) = [⟨(enc1 (hopD m.next,7)).toArray⟩]from rfl]at hwp
     refine' qza0
     generalize (⟨(enc1 (hopD m.next,7)).toArray⟩:ByteArray)=x2 at *
     refine' qzi;refine' qz3w;refine' qz1a;refine' qz7h;refine' qzcl;refine' qz4h;refine' qzc7;refine' qz23
     go_upto_region 10 with fail
     clear c9 c11 n0 i0 qi;refine' qzcb;clear D;generalize V.drew=V at *;refine H.tk (i:=0) (v:=?v0x1dr) ?h0x1dr hS ?_
     case h0x1dr=>(intro w hw;go_simp;first|done|(with_reducible rfl))
     refine' qz0;refine H.tk (i:=1) (v:=?v1x2dr) ?h1x2dr hS ?_
     case h1x2dr=>(intro w hw;have c:=(hw.m0).cs.c9;go_simp;first|done|(with_reducible rfl))
     refine' qz0;refine H.tk (i:=2) (v:=?v2x3dr) ?h2x3dr hS ?_
     case h2x3dr=>(intro w hw;go_simp;first|done|(with_reducible rfl))
     refine' qz0;refine H.tk (i:=3) (v:=?v3x4dr) ?h3x4dr hS ?_
     case h3x4dr=>(intro w hw;go_simp;first|done|(with_reducible rfl))
     refine' qz0;refine H.tk (i:=4) (v := .pointer (some ⟨w.heap.size,4+k,none⟩)) ?h4x5dr hS ?_
     case h4x5dr=>exact(fun w1 hw=>f0e (vx := .pointer (some ⟨w.heap.size,4,none⟩)) (vy := .int .i64 (k:Int)) rfl rfl rfl (c0j _ _ hk2 _))
     refine' qz0;refine H.tk (i:=5) (v:=?v5x6dr) ?h5x6dr hS ?_
     case h5x6dr=>(intro w hw;have c:_=some (Value.string (c.nx k)):=n0m hw.s0 hk2;go_simp;first|done|(with_reducible rfl))
     refine' qz0;refine H.tk (i:=6) (v:=?v6x7dr) ?h6x7dr hS ?_
     case h6x7dr=>(intro w hw;go_simp;first|done|(with_reducible rfl))
     refine' qz1;have D:=Lib.hid hS;have c9:=hS.m0.cs.c9;refine' qzg;clear hS;clear c9 qn;refine(P3.out _).mono ?_;refine' qzc8;refine' qz7;clear hb;have bel:=balloc (Below.refl w1.heap.size w1) (.cells #[.string x2] 9);refine' qz4i;refine' qz4f;have hzz:=D.out.bel.size;have hz3:=R0.out.lt
     go_upto_region 12 with(first|(refine j0c rfl _ rfl (s:=x2) rfl ?_)|(at_builtin;refine f0d rfl _ _ rfl (w.heap.size+1+1+1) _ [] x2 w1.heap.size 1 rfl HL.out rfl (z0a x2 w1) ?cl12 ?cb12 ?_))
     case cl12=>exact Nat.zero_le _
     case cb12=>omega
     intro v' w2 hl hb hz;refine' qz3y;obtain⟨ls,hls⟩:∃ l,l = [x2]:=⟨_,rfl⟩;rw[←hls]at hl;have HQ2:=Lib.hid hls;refine' qz7l;clear hl hb hz bel hls hzz hz3;have c9:=D.out.m0.cs.c9;have d:=n0m D.out.s0 hk2;refine' qzch;clear c9 d fd
     have D:=Lib.hid (D.out.set (c':=(c:Kx).setN k m.next) (k:=4+k) (v := .string m.next) (g1c _ _ hk2))
     refine' qz8z
     generalize w2.setCell ⟨w.heap.size,4+k,none⟩ (.string m.next)=V at *
     have HY:=Lib.hid (show wayP c m=(ls,(c:Kx).setN k m.next,0) by rw[HY.out,HQ2.out]<;>rfl)
     refine' qz7z
     refine wp_region_held_drew (S:=fun X=>Bk 74 X w.heap.size (Kx.cells ((c:Kx).setN k m.next))) (by kernel_rfl) (D.out.s0) (fun hS=>?_)
     refine' qz7d;refine H.tk (i:=0) (v := .slice qa ls.length qk) ?h0x1df hS ?_
     case h0x1df=>exact(fun w hw=>by go_simp)
     refine' qz0
     refine H.tk (i:=1) (v := .agg (Kx.cells ((c:Kx).setN k m.next))) ?h1x2df hS ?_
     case h1x2df=>exact(fun w hw=>o0a shX (x := .tmp 2) rfl rfl hw rfl)
     refine' qz0;refine H.tk (i:=2) (v:=?v2x3df) ?h2x3df hS ?_
     case h2x3df=>(intro w hw;go_simp;first|done|(with_reducible rfl))
     refine' qz5
     refine wp_store_row 74 _ _ rfl (w.heap.size+1+1) (Kx.cells ((c:Kx).setN k m.next)) rfl rfl 74 Kx.zero.cells R0.out infoX rfl (oneX _) ?_
     refine' qz79
     have hS:=(show Bk 74 (Z0.setRow (w.heap.size+1+1) (Kx.cells ((c:Kx).setN k m.next))) w.heap.size (Kx.cells ((c:Kx).setN k m.next))from hS.row (by omega) _)
     refine' qz2s;refine' qz8v
     exact bodyPost_ret (v := .tuple #[.slice qa ls.length qk,.agg (Kx.cells ((c:Kx).setN k m.next)),.int .i64 0]) (l0c (ty:=74) rfl _ _ (w.heap.size+1+1) (.agg (Kx.cells ((c:Kx).setN k m.next))) (.slice qa ls.length qk) rfl rfl (loadVarK shX (R0.out.put (Kx.cells ((c:Kx).setN k m.next))) rfl) (.int .i64 0) rfl) rfl (by rw[HY.out];exact⟨qa,qk,rfl,(HL.out.under (by omega) _).mono (by omega),Box.below_setRow HB.out (by omega) _⟩)
 · by_cases hn:m.next=c.nx k
   · rw[decide_eq_false hz]at nm1 nm2;rw[decide_eq_false hi]at qi;rw[decide_eq_true hn]at qn;rw[if_neg hi,if_pos hn]at hwp;rw[hss hn]at hwp
     rw[show elB ([(idD m.id,6)] ++ []) = [⟨(enc1 (idD m.id,6)).toArray⟩]from rfl]at hwp
     refine' qza0;generalize (⟨(enc1 (idD m.id,6)).toArray⟩:ByteArray)=x1 at *;refine' qzi;refine' qz3w;refine' qz1a;refine' qz7h;refine' qzcl;refine' qz4h;refine' qzc7;refine' qz23;refine' qzg;clear c9 c11 n0 i0 qi;refine' qzs;refine' qzc8;refine' qz7;clear hb;refine' qzc4;refine' qz4f;have hzz:=D.out.bel.size;refine' qz3o;intro v' w2 hl hb hz;refine' qz3y;obtain⟨ls,hls⟩:∃ l,l = [x1]:=⟨_,rfl⟩;rw[←hls]at hl;have HQ1:=Lib.hid hls;refine' qz7l;clear hl hb hz bel hls hzz hz3;have c11:=D.out.m0.cs.c11;have d:=D.out.s0.cell 6 (.string c.id) rfl;have fd:=D.out.s0.frozen 6
     go_upto_region 10 with fail
     refine' qzc5;refine' qz4d;generalize w2.setCell ⟨w.heap.size,6,none⟩ (.string m.id)=V at *;refine' qz9z;clear D;generalize V.drew=V at *;refine H.tk (i:=0) (v:=?v0x1er) ?h0x1er hS ?_
     case h0x1er=>(intro w hw;go_simp;first|done|(with_reducible rfl))
     refine' qz0;refine H.tk (i:=1) (v:=?v1x2er) ?h1x2er hS ?_
     case h1x2er=>(intro w hw;have c:=(hw.m0).cs.c9;go_simp;first|done|(with_reducible rfl))
     refine' qz0;refine H.tk (i:=2) (v:=?v2x3er) ?h2x3er hS ?_
     case h2x3er=>(intro w hw;go_simp;first|done|(with_reducible rfl))
     refine' qz0;refine H.tk (i:=3) (v:=?v3x4er) ?h3x4er hS ?_
     case h3x4er=>(intro w hw;go_simp;first|done|(with_reducible rfl))
     refine' qz0;refine H.tk (i:=4) (v := .pointer (some ⟨w.heap.size,4+k,none⟩)) ?h4x5er hS ?_
     case h4x5er=>exact(fun w1 hw=>f0e (vx := .pointer (some ⟨w.heap.size,4,none⟩)) (vy := .int .i64 (k:Int)) rfl rfl rfl (c0j _ _ hk2 _))
     refine' qz0;refine H.tk (i:=5) (v:=?v5x6er) ?h5x6er hS ?_
     case h5x6er=>(intro w hw;have c:_=some (Value.string (c.nx k)):=n0m hw.s0 hk2;go_simp;first|done|(with_reducible rfl))
     refine' qz0;refine H.tk (i:=6) (v:=?v6x7er) ?h6x7er hS ?_
     case h6x7er=>(intro w hw;go_simp;first|done|(with_reducible rfl))
     refine' qz1;have D:=Lib.hid hS
     go_upto_region 13 with fail
     clear hS
     have HY:=Lib.hid (show wayP c m=(ls,{ c with id:=m.id},0) by rw[HY.out,HQ1.out]<;>rfl)
     refine' qz7z
     refine wp_region_held_drew (S:=fun X=>Bk 74 X w.heap.size (Kx.cells ({ c with id:=m.id}))) (by kernel_rfl) (D.out.s0) (fun hS=>?_)
     refine' qz7d;refine H.tk (i:=0) (v := .slice qa ls.length qk) ?h0x1ef hS ?_
     case h0x1ef=>exact(fun w hw=>by go_simp)
     refine' qz0
     refine H.tk (i:=1) (v := .agg (Kx.cells ({ c with id:=m.id}))) ?h1x2ef hS ?_
     case h1x2ef=>exact(fun w hw=>o0a shX (x := .tmp 2) rfl rfl hw rfl)
     refine' qz0;refine H.tk (i:=2) (v:=?v2x3ef) ?h2x3ef hS ?_
     case h2x3ef=>(intro w hw;go_simp;first|done|(with_reducible rfl))
     refine' qz5
     refine wp_store_row 74 _ _ rfl (w.heap.size+1+1) (Kx.cells ({ c with id:=m.id})) rfl rfl 74 Kx.zero.cells R0.out infoX rfl (oneX _) ?_
     refine' qz79
     have hS:=(show Bk 74 (Z0.setRow (w.heap.size+1+1) (Kx.cells ({ c with id:=m.id}))) w.heap.size (Kx.cells ({ c with id:=m.id}))from hS.row (by omega) _)
     refine' qz2s;refine' qz1;refine' qz4u
   · rw[decide_eq_false hz]at nm1 nm2;rw[decide_eq_false hi]at qi;rw[decide_eq_false hn]at qn;rw[if_neg hi,if_neg hn]at hwp
     have P3:=Lib.hid (fun V=>z0o m.next V (by rcases hnn with e|e;exact absurd e hn;exact e.1))
     rw[show elB ([(idD m.id,6)] ++ [(hopD m.next,7)]) = [⟨(enc1 (idD m.id,6)).toArray⟩,⟨(enc1 (hopD m.next,7)).toArray⟩]from rfl]at hwp
     refine' qza0;generalize (⟨(enc1 (idD m.id,6)).toArray⟩:ByteArray)=x1 at *
     generalize (⟨(enc1 (hopD m.next,7)).toArray⟩:ByteArray)=x2 at *
     refine' qzi;refine' qz3w;refine' qz1a;refine' qz7h;refine' qzcl;refine' qz4h;refine' qzc7;refine' qz23;refine' qzg;clear c9 c11 n0 i0 qi;refine' qzs;refine' qzc8;refine' qz7;clear hb;refine' qzc4;refine' qz4f;have hzz:=D.out.bel.size;refine' qz3o;intro v' w2 hl hb hz;refine' qz3y;obtain⟨ls1,hls⟩:∃ l,l = [x1]:=⟨_,rfl⟩;rw[←hls]at hl;have HQ1:=Lib.hid hls;refine' qz7l;clear hl hb hz bel hls hzz hz3;have c11:=D.out.m0.cs.c11;have d:=D.out.s0.cell 6 (.string c.id) rfl;have fd:=D.out.s0.frozen 6
     go_upto_region 10 with fail
     refine' qzc5;refine' qz4d;generalize w2.setCell ⟨w.heap.size,6,none⟩ (.string m.id)=V at *;refine' qz9z;clear D;generalize V.drew=V at *;refine H.tk (i:=0) (v:=?v0x1gr) ?h0x1gr hS ?_
     case h0x1gr=>(intro w hw;go_simp;first|done|(with_reducible rfl))
     refine' qz0;refine H.tk (i:=1) (v:=?v1x2gr) ?h1x2gr hS ?_
     case h1x2gr=>(intro w hw;have c:=(hw.m0).cs.c9;go_simp;first|done|(with_reducible rfl))
     refine' qz0;refine H.tk (i:=2) (v:=?v2x3gr) ?h2x3gr hS ?_
     case h2x3gr=>(intro w hw;go_simp;first|done|(with_reducible rfl))
     refine' qz0;refine H.tk (i:=3) (v:=?v3x4gr) ?h3x4gr hS ?_
     case h3x4gr=>(intro w hw;go_simp;first|done|(with_reducible rfl))
     refine' qz0;refine H.tk (i:=4) (v := .pointer (some ⟨w.heap.size,4+k,none⟩)) ?h4x5gr hS ?_
     case h4x5gr=>exact(fun w1 hw=>f0e (vx := .pointer (some ⟨w.heap.size,4,none⟩)) (vy := .int .i64 (k:Int)) rfl rfl rfl (c0j _ _ hk2 _))
     refine' qz0;refine H.tk (i:=5) (v:=?v5x6gr) ?h5x6gr hS ?_
     case h5x6gr=>(intro w hw;have c:_=some (Value.string (c.nx k)):=n0m hw.s0 hk2;go_simp;first|done|(with_reducible rfl))
     refine' qz0;refine H.tk (i:=6) (v:=?v6x7gr) ?h6x7gr hS ?_
     case h6x7gr=>(intro w hw;go_simp;first|done|(with_reducible rfl))
     refine' qz1;have D:=Lib.hid hS;have c9:=hS.m0.cs.c9;refine' qzg;clear hS;clear c9 qn;refine(P3.out _).mono ?_;refine' qzc8;refine' qz7;clear hb;have bel:=balloc (Below.refl w1.heap.size w1) (.cells #[.string x2] 9);refine' qz4i;refine' qz4f;have hzz:=D.out.bel.size;have hz3:=R0.out.lt
     go_upto_region 12 with(first|(refine j0c rfl _ rfl (s:=x2) rfl ?_)|(at_builtin;refine f0d rfl _ _ rfl (w.heap.size+1+1+1) _ ls1 x2 w1.heap.size 1 rfl HL.out rfl (z0a x2 w1) ?cl12 ?cb12 ?_))
     case cl12=>(rw[HQ1.out];exact(by decide:1≤100000))
     case cb12=>omega
     intro v' w2 hl hb hz;refine' qz3y;obtain⟨ls,hls⟩:∃ l,l=ls1 ++ [x2]:=⟨_,rfl⟩;rw[←hls]at hl;have HQ2:=Lib.hid hls;refine' qz7l;clear hl hb hz bel hls hzz hz3;have c9:=D.out.m0.cs.c9;have d:=n0m D.out.s0 hk2;refine' qzch;clear c9 d fd
     have D:=Lib.hid (D.out.set (c':=({ c with id:=m.id}:Kx).setN k m.next) (k:=4+k) (v := .string m.next) (g1c _ _ hk2))
     refine' qz8z
     generalize w2.setCell ⟨w.heap.size,4+k,none⟩ (.string m.next)=V at *
     have HY:=Lib.hid (show wayP c m=(ls,({ c with id:=m.id}:Kx).setN k m.next,0) by rw[HY.out,HQ2.out,HQ1.out]<;>rfl)
     refine' qz7z
     refine wp_region_held_drew (S:=fun X=>Bk 74 X w.heap.size (Kx.cells (({ c with id:=m.id}:Kx).setN k m.next))) (by kernel_rfl) (D.out.s0) (fun hS=>?_)
     refine' qz7d;refine H.tk (i:=0) (v := .slice qa ls.length qk) ?h0x1gf hS ?_
     case h0x1gf=>exact(fun w hw=>by go_simp)
     refine' qz0
     refine H.tk (i:=1) (v := .agg (Kx.cells (({ c with id:=m.id}:Kx).setN k m.next))) ?h1x2gf hS ?_
     case h1x2gf=>exact(fun w hw=>o0a shX (x := .tmp 2) rfl rfl hw rfl)
     refine' qz0;refine H.tk (i:=2) (v:=?v2x3gf) ?h2x3gf hS ?_
     case h2x3gf=>(intro w hw;go_simp;first|done|(with_reducible rfl))
     refine' qz5
     refine wp_store_row 74 _ _ rfl (w.heap.size+1+1) (Kx.cells (({ c with id:=m.id}:Kx).setN k m.next)) rfl rfl 74 Kx.zero.cells R0.out infoX rfl (oneX _) ?_
     refine' qz79
     have hS:=(show Bk 74 (Z0.setRow (w.heap.size+1+1) (Kx.cells (({ c with id:=m.id}:Kx).setN k m.next))) w.heap.size (Kx.cells (({ c with id:=m.id}:Kx).setN k m.next))from hS.row (by omega) _)
     refine' qz2s;refine' qz8v
     exact bodyPost_ret (v := .tuple #[.slice qa ls.length qk,.agg (Kx.cells (({ c with id:=m.id}:Kx).setN k m.next)),.int .i64 0]) (l0c (ty:=74) rfl _ _ (w.heap.size+1+1) (.agg (Kx.cells (({ c with id:=m.id}:Kx).setN k m.next))) (.slice qa ls.length qk) rfl rfl (loadVarK shX (R0.out.put (Kx.cells (({ c with id:=m.id}:Kx).setN k m.next))) rfl) (.int .i64 0) rfl) rfl (by rw[HY.out];exact⟨qa,qk,rfl,(HL.out.under (by omega) _).mono (by omega),Box.below_setRow HB.out (by omega) _⟩)
end Lw
end Go.Proofs.YtllhobicfclheaaGreatDoor
