/-
  A part of a proof. No conditions.
-/
import Derived.Test.YtllhobicfclheaaGreatDoorY21
import Derived.Test.YtllhobicfclheaaGreatDoorY36
namespace Go.Proofs.YtllhobicfclheaaGreatDoor
open Go.ChangeShapes Go.WideShapes Go.ChangeAt Go.RowKit
set_option linter.unusedVariables false
set_option maxRecDepth 100000
set_option maxHeartbeats 51200000
namespace Lv
open Ms Box An Tc J1 K1 Kb L1 L2 L5 L6 Lw Cx
open F1 (enc1 l0b encT)
open Bk (Bk b0a o0a loadVarK)
open Js (Lst j0c c0h z0a infoT rowT catJ flat)
open Hs Hy
open Go.Proofs.YtllhobicfclheaaGreatDoor.Or (p0a)
open Lu
theorem a1m (c:Kx)(m:M):putL c m=(catJ (tlvP c m).1,(tlvP c m).2.1,(tlvP c m).2.2):=by
 unfold putL tlvP updP;cases okL m
 · rfl
 rw[if_pos rfl,if_pos rfl];cases badC c m
 · rw[if_neg (by decide),if_neg (by decide)]
   show _=(catJ (elB (elsL c m)),_,_)
   unfold catJ;rw[k0y]
 · rfl
theorem k0w {c:Kx}{m:M}(h:okL m=true)(hb:badC c m=false):(elsL c m).length≤3∧(encT (elsL c m)).length≤1000:=by
 have h3:(elsL c m).length≤3:=by
  unfold elsL;split
  · have:=q1c c m;rw[j0v]at this;rw[List.length_append];exact Nat.add_le_add_right this 1
  · exact(by decide:1≤3)
 refine⟨h3,?_⟩;have ho:=b1a h hb;generalize elsL c m=l at *
 have h1:∀ x:F1.El,F1.ok1 x→(enc1 x).length≤257:=fun x hx=>by
  rw[l0b];have:=hx.2.2.1
  split<;>omega
 clear h hb
 match l,h3,ho with
 | [],_,_=>exact(by decide:0≤1000)
 | [x],_,ho=>have:=h1 x (ho x (by simp));unfold encT;simp only[List.flatMap_cons,List.flatMap_nil,List.append_nil];omega
 | [x,y],_,ho=>have:=h1 x (ho x (by simp));have:=h1 y (ho y (by simp));unfold encT;simp only[List.flatMap_cons,List.flatMap_nil,List.append_nil,List.length_append];omega
 | [x,y,z],_,ho=>have:=h1 x (ho x (by simp));have:=h1 y (ho y (by simp));have:=h1 z (ho z (by simp));unfold encT;simp only[List.flatMap_cons,List.flatMap_nil,List.append_nil,List.length_append];omega
theorem e1g (c:Kx)(m:M):(tlvP c m).1.length≤1000∧(flat (tlvP c m).1).length≤1000000:=by
 unfold tlvP updP;cases ho:okL m
 · exact⟨Nat.zero_le _,Nat.zero_le _⟩
 rw[if_pos rfl];cases hb:badC c m
 · rw[if_neg (by decide)]
   show(elB (elsL c m)).length≤1000∧(flat (elB (elsL c m))).length≤1000000
   rw[j0v,k0y];obtain⟨h1,h2⟩:=k0w ho hb;omega
 · exact⟨Nat.zero_le _,Nat.zero_le _⟩
theorem a0q (c:Kx)(m:M)(w:World)(hm:m.In w)(ln:m.sl.length≤2000)(lb:∀ x∈m.sl,x.1.size≤1099511627776)(hp:m.pfx.size≤maxLen)(hc:okC c=true)(ht:Tab w):Calls Tryz.prog 255 #[.agg c.cells,.agg m.cells] w (AnsW (tlvP c m) w):=by
 have P1:=Lib.hid (fun V (y:m.In V) (z:Tab V)=>L5.l0a m V y lb hp z)
 refine' qz6v;cases ho:okL m
 · have HY:=Lib.hid (show tlvP c m=([],c,1) by unfold tlvP;rw[ho];rfl)
   rw[ho]at P1;clear ho hc lb ln hp;refine' qzi;refine' qz3w;refine' qz1a;refine' qz7q;refine' qzc8;clear hb P1;generalize w1=V at *;refine' qzb7;refine' qz3g;refine' qz7d;refine H.tk (i:=0) (v := .agg (Kx.cells c)) ?h0x1t1 hS ?_
   case h0x1t1=>exact(fun w hw=>o0a shX (x := .tmp 2) rfl rfl hw rfl)
   refine' qz7i;refine' qz1c;refine' qz27;refine' qz3b
   try simp only[Act.put]
   refine H.tk (i:=3) (v:=(Value.int IntKind.i64 1)) (fun w _=>rfl) hS ?_
   refine' qz8v
   exact bodyPost_ret (v := .tuple #[.slice none 0 0,.agg (Kx.cells c),.int .i64 1]) (l0c (ty:=74) rfl _ _ (w.heap.size+1+1) (.agg (Kx.cells c)) (.slice none 0 0) rfl rfl (loadVarK shX (R0.out.put (Kx.cells c)) rfl) (.int .i64 1) rfl) rfl (AnsW.no HY.out (Box.below_setRow HB.out (by omega) _))
 rw[ho]at P1;by_cases k:m.kind=11
 · obtain⟨ls,cf,er,hq⟩:∃ a b d,updP c m=(a,b,d):=⟨_,_,_,rfl⟩
   have HY:=Lib.hid (show tlvP c m=(ls,cf,er) by unfold tlvP;rw[ho,if_pos rfl,hq])
   have hu:=ok_u ho k
   have PU:=Lib.hid (fun V (y:m.In V)=>(b0h c m V y ln lb hc hu).mono (fun e w' x=>AnsW.said x hq))
   clear ho hc lb ln hp hu hq;refine' qzi;refine' qz3w;refine' qz1a;refine' qz7q;refine' qzc8;clear hb P1;generalize w1=V at *;have c0:=D.out.m0.cs.c0;rw[k]at c0;clear k;have hzV:w.heap.size+1+1<V.heap.size:=R0.out.lt;refine' qz5v;rintro r w2 ⟨qa,qk,rfl,hl,hb⟩;refine' qz2a;refine' qz7k;clear hb hl PU c0
   go_wp2_with (first|(refine s0b (b:=w.heap.size+1+1) (m:=Kx.zero) (m':=cf) rfl _ _ rfl rfl rfl R0.out ?_))
   exact bodyPost_ret (v := .tuple #[.slice qa ls.length qk,.agg (Kx.cells cf),.int .i64 er]) (l0c (ty:=74) rfl _ _ (w.heap.size+1+1) (.agg (Kx.cells cf)) (.slice qa ls.length qk) rfl rfl (loadVarK shX (R0.out.put (Kx.cells cf)) rfl) (.int .i64 er) rfl) rfl (by rw[HY.out];exact⟨qa,qk,rfl,(HL.out.under hzV _).mono (by omega),Box.below_setRow D.out.bel (by omega) _⟩)
 have PA:=Lib.hid (fun V (y:m.In V) (z:Tab V)=>y1e m V y ln lb hp z ho k)
 have HY:=Lib.hid (show tlvP c m=([⟨(enc1 (othE m)).toArray⟩],c,0) by
  unfold tlvP updP elsL ctxL badC;rw[ho,if_pos rfl,decide_eq_false k,if_neg k,if_neg k]
  rfl)
 generalize (⟨(enc1 (othE m)).toArray⟩:ByteArray)=x at *
 have e11:(m.kind==11)=false:=by simpa using k
 clear ho hc lb ln hp k;refine' qzi;refine' qz3w;refine' qz1a;refine' qz7q;refine' qzc8;clear hb P1;generalize w1=V at *;have c0:=D.out.m0.cs.c0;have hzV:w.heap.size+1+1<V.heap.size:=R0.out.lt;refine' qzcv;have HT:=Lib.hid (HT.out.below D.out.bel.drew);refine' qz17;refine' qzd8;have hzV:w.heap.size+1+1<V.drew.heap.size:=hzV;clear D c0 e11;generalize V.drew=X0 at *;refine H.tk (i:=0) (v := .agg (M.cells m)) ?h0x1 hS ?_
 case h0x1=>exact(fun w hw=>a0b (x := .tmp 3) rfl rfl hw.m0)
 refine' qz0;refine H.tk (i:=3) (v := .agg (Kx.cells c)) ?h3x2 hS ?_
 case h3x2=>exact(fun w hw=>o0a shX (x := .tmp 2) rfl rfl hw.s0 rfl)
 refine' qz9b;go_simp;refine(PA.out _ hS.i HT.out).mono ?_;rintro e X1 ⟨rfl,hb⟩;have hS':=hS.call hb;have R0:=Lib.hid (R0.out.below hb);have hz1:=hb.size;refine hK.out _ _ hS' ?_;refine' qzan
 refine H.one (i:=2) (by simp only[List.getElem?_toArray,List.getElem?_cons_succ,List.getElem?_cons_zero];rfl) (by kernel_rfl) (by kernel_rfl) (fun K hK=>?_)
 refine d1d rfl (c0h (s:=x) rfl rfl) ?_;have bel:=balloc (Below.refl X1.heap.size X1) (.cells #[.string x] 9);have hS':=hS.call bel;refine' qzb;refine hK.out _ _ hS' ?_;have HL:=Lib.hid (Js.a0p x X1);clear hK K hS bel;have hS:=hS';clear hS';generalize X1.alloc (.cells #[.string x] 9)=X2 at *
 have hzX:w.heap.size+1+1<X1.heap.size:=by omega
 clear hz1;generalize X1.heap.size=g8 at *;refine' qz0;refine H.tk (i:=4) (v := .slice (some ⟨g8,0,none⟩) 1 1) ?h4x3 hS ?_
 case h4x3=>exact(fun w hw=>by go_simp)
 refine' qzl;refine' qz27;clear hK K
 have hS:=(show Us w c m (X2.setRow (w.heap.size+1+1) (Kx.cells c))from hS.row (by omega) _)
 try simp only[Act.put]
 refine H.tk (i:=6) (v:=(Value.int IntKind.i64 0)) (fun w _=>rfl) hS ?_
 refine' qz8v
 exact bodyPost_ret (v := .tuple #[.slice (some ⟨g8,0,none⟩) 1 1,.agg (Kx.cells c),.int .i64 0]) (l0c (ty:=74) rfl _ _ (w.heap.size+1+1) (.agg (Kx.cells c)) (.slice (some ⟨g8,0,none⟩) 1 1) rfl rfl (loadVarK shX (R0.out.put (Kx.cells c)) rfl) (.int .i64 0) rfl) rfl (by rw[HY.out];exact⟨_,1,rfl,(HL.out.under (by omega) _).mono (by omega),hS.bel⟩)
theorem c0b (c:Kx)(m:M)(w:World)(hm:m.In w)(ln:m.sl.length≤2000)(lb:∀ x∈m.sl,x.1.size≤1099511627776)(hp:m.pfx.size≤maxLen)(hc:okC c=true)(ht:Tab w):Calls Tryz.prog 191 #[.agg c.cells,.agg m.cells] w fun e w'=>e = .returned (.tuple #[.string (putL c m).1,.agg (putL c m).2.1.cells,.int .i64 (putL c m).2.2])∧Below w.heap.size w w':=by
 have hsz:=e1g c m;have hq:=a1m c m
 have PT:=fun V (y:m.In V) (z:Tab V)=>a0q c m V y ln lb hp hc z
 obtain⟨ls,cf,er,he⟩:∃ a b d,tlvP c m=(a,b,d):=⟨_,_,_,rfl⟩;rw[he]at hsz hq PT;rw[hq]
 have HSZ:=Lib.hid (show ls.length≤1000∧(flat ls).length≤1000000 from hsz)
 have PT:=Lib.hid (fun V (y:m.In V) (z:Tab V)=>(PT V y z).mono (fun e w' x=>AnsW.said x rfl))
 have HT:=Lib.hid ht;clear hsz hq he ln lb hp hc ht
 show Calls _ _ _ _ fun e w'=>e = .returned (.tuple #[.string (catJ ls),.agg cf.cells,.int .i64 er])∧Below w.heap.size w w'
 refine' qzi;refine' qz3w;refine' qz1a;have hzV:w.heap.size+1+1<V.heap.size:=R0.out.lt;refine' qz5t;refine(PT.out _ D.out.i (HT.out.below D.out.bel)).mono ?_;rintro r w1 ⟨qa,qk,rfl,hl,hb⟩;refine' qz2a;refine' qz7k;have hz1:=hb.size;clear hl hb PT
 go_upto_region 2 with(refine s0b (b:=w1.heap.size) (m:=Kx.zero) (m':=cf) rfl _ _ rfl rfl rfl (Bk.Bk.new 74 w1 Kx.zero.cells) ?_)
 change Code.wp _ _ _ _ ((w1.alloc (.cells Kx.zero.cells 74)).setRow w1.heap.size (Kx.cells cf));refine' qz33;have bel:=balloc (Below.refl w1.heap.size w1) (.cells (Kx.cells cf) 74);refine' qz4i;have S1:=Lib.hid (Bk.Bk.new 74 w1 (Kx.cells cf));refine' qz4f
 have hgz:w.heap.size+1+1<w1.heap.size:=by omega
 clear bel hz1;generalize w1.alloc (.cells (Kx.cells cf) 74)=V2 at *;refine' qzcr
 have R0:=Lib.hid (show Bk 74 V2.drew (w.heap.size+1+1) Kx.zero.cells from R0.out)
 have HB:=Lib.hid (show Below w.heap.size w V2.drew from D.out.bel.drew)
 refine wp_region_held_drew (S:=fun X=>Lst V.heap.size X (.slice qa ls.length qk) ls∧Bk 74 X g cf.cells) (by kernel_rfl) ⟨HL.out.below (Below.refl _ V2).drew,S1.out⟩ (fun hS=>?_)
 clear D HL S1;generalize V2.drew=X0 at *;refine H.tk (i:=0) (v := .slice qa ls.length qk) ?h0x1v hS ?_
 case h0x1v=>exact(fun w hw=>by go_simp)
 refine' qz0;refine H.tk (i:=2) (v := .agg (Kx.cells cf)) ?h2x2v hS ?_
 case h2x2v=>exact(fun w hw=>o0a shX (x := .tmp 8) rfl rfl hw.2 rfl)
 refine' qz0;refine H.tk (i:=3) (v := .int .i64 er) ?h3x3v hS ?_
 case h3x3v=>exact(fun w hw=>by go_simp)
 refine' qz9b;go_simp;refine(Js.h1k qa qk ls _ hS.1 HSZ.out.1 HSZ.out.2).mono ?_;rintro e X1 ⟨rfl,hb⟩;have hS':=And.intro (hS.1.below hb) (hS.2.below hb);refine' qz1m;refine hK.out _ _ hS' ?_;refine' qzan;refine H.tk (i:=4) (v := .string (catJ ls)) ?h4x4v hS ?_
 case h4x4v=>exact(fun w hw=>by go_simp)
 refine' qzl;refine wp_store_row 74 _ _ rfl (w.heap.size+1+1) (Kx.cells cf) rfl rfl 74 Kx.zero.cells R0.out infoX rfl (oneX _) ?_
 refine hK.out _ _ ⟨hS.1.under hzV _,hS.2.row (by omega) _⟩ ?_
 clear hK K
 have hS:=(show Lst V.heap.size (X1.setRow (w.heap.size+1+1) (Kx.cells cf)) (.slice qa ls.length qk) ls∧Bk 74 (X1.setRow (w.heap.size+1+1) (Kx.cells cf)) g cf.cells from⟨hS.1.under hzV _,hS.2.row (by omega) _⟩)
 try simp only[Act.put]
 refine H.tk (i:=6) (v := .int .i64 er) ?h6x5v hS ?_
 case h6x5v=>exact(fun w hw=>by go_simp)
 refine' qz8v
 exact bodyPost_ret (v := .tuple #[.string (catJ ls),.agg (Kx.cells cf),.int .i64 er]) (l0c (ty:=74) rfl _ _ (w.heap.size+1+1) (.agg (Kx.cells cf)) (.string (catJ ls)) rfl rfl (loadVarK shX (R0.out.put (Kx.cells cf)) rfl) (.int .i64 er) rfl) rfl ⟨rfl,Box.below_setRow HB.out (by omega) _⟩
end Lv
namespace O3
open Ms Box All An K1 L2 O1
open F1 (T okT l0d encT wrap c0d m0b h0e)
theorem q0n {c:Kx}{m:M}(h:okL m=false):putL c m=(ByteArray.empty,c,1):=by unfold putL;rw[h];rfl
theorem n1b {c:Kx}{m:M}(h:okL m=true)(hb:badC c m=true):putL c m=(ByteArray.empty,c,9):=by unfold putL;rw[h,hb];rfl
theorem i0m {c:Kx}{m:M}(h:okL m=true)(hb:badC c m=false):putL c m=(⟨(encT (elsL c m)).toArray⟩,ctxL c m,0):=by unfold putL;rw[h,hb];rfl
def Sp (m:M):Prop:=m.ll.length≤1048576∧m.sl.length≤2000∧(∀ x∈m.sl,x.1.size≤1099511627776)∧m.pfx.size≤maxLen
theorem Sp.few {m:M}(h:Few.fewB m=true)(hp:m.pfx.size≤maxLen):Sp m:=by
 obtain⟨h1,h2,h3⟩:=a0l h
 exact⟨by omega,by omega,h3,hp⟩
theorem Sp.short {m:M}(h:Sp m):Short m:=⟨h.1,by have:=h.2.1;omega⟩
theorem x0j {W:World}{a:Option Addr}{l:List M}(h:MRow W a l)(hs:∀ m∈l,Sp m){k:Nat}(hk:k<l.length):l[k].In W:=by
 obtain⟨p,_,_,_,hd,hsr⟩:=h k hk;have h:=hs _ (List.getElem_mem hk)
 exact⟨hd,hsr,by have:=h.1;omega,by have:=h.2.1;omega⟩
def AnsE (p:ByteArray×Int×Int)(w:World)(e:Ending)(w':World):Prop:=e = .returned (.tuple #[.string p.1,.int .i64 p.2.1,.int .i64 p.2.2])∧Below w.heap.size w w'
theorem AnsE.of {p:ByteArray×Int×Int}{w w':World}{b:ByteArray}{i e:Int}(h:p=(b,i,e))(hb:Below w.heap.size w w'):AnsE p w (.returned (.tuple #[.string b,.int .i64 i,.int .i64 e])) w':=by subst h;exact⟨rfl,hb⟩
theorem q1r {l:List M}(h:∀ i (hi:i<l.length),okL l[i]=true):l.all okL=true:=by
 rw[List.all_eq_true];intro x hx;obtain⟨i,hi,rfl⟩:=List.getElem_of_mem hx;exact h i hi
theorem a0y:∀ (l:List M) (k:Nat) (hk:k<l.length) (i:Int),(∀ j (hj:j<l.length),j<k→okL l[j]=true)→okL l[k]=false→wrongAt l i=i+k
  | [],k,hk,_,_,_=>absurd hk (by simp)
  | m::l,0,hk,i,h,hn=>by
      have hn:okL m=false:=hn
      unfold wrongAt;rw[hn];simp
  | m::l,k+1,hk,i,h,hn=>by
      have hm:okL m=true:=h 0 (by simp) (by omega)
      have ih:=a0y l k (by simpa using hk) (i+1) (fun j hj hjk=>by have:=h (j+1) (by simpa using hj) (by omega);simpa using this) (by simpa using hn)
      unfold wrongAt;rw[if_pos hm,ih];push_cast;omega
theorem g0d {l:List M}{k:Nat}(hk:k<l.length)(h:∀ i (hi:i<l.length),i<k→okL l[i]=true)(hn:okL l[k]=false):outE l=(ByteArray.empty,(k:Int),1):=by
 have hna:¬l.all okL=true:=fun ha=>by
  have:=List.all_eq_true.1 ha _ (List.getElem_mem hk);rw[hn]at this;cases this
 unfold outE;rw[if_neg hna,a0y l k hk 0 h hn,Int.zero_add]
def St (l:List M)(k:Nat)(c:Kx)(s:ByteArray):Prop:=∃ a,okT a∧s=⟨(encT a).toArray⟩∧(encT a).length≤65531∧okC c=true∧outE l=outW (l.drop k) c a k
theorem St.ok {l:List M}{k:Nat}{c:Kx}{s:ByteArray}(h:St l k c s):okC c=true:=by obtain⟨_,_,_,_,h,_⟩:=h;exact h
theorem m0z (l:List UInt8):(ByteArray.mk l.toArray).size=l.length:=by show l.toArray.size=_;simp
theorem St.size {l:List M}{k:Nat}{c:Kx}{s:ByteArray}(h:St l k c s):s.size≤65531:=by obtain⟨a,_,rfl,h,_⟩:=h;rw[m0z];exact h
theorem St.start {l:List M}(h:∀ i (hi:i<l.length),okL l[i]=true):St l 0 Kx.zero ByteArray.empty:=
  ⟨[],l0d,rfl,Nat.zero_le _,c0k,by unfold outE;rw[if_pos (q1r h)];rfl⟩
theorem i1n (a b:List F1.El):(ByteArray.mk (encT a).toArray)++(ByteArray.mk (encT b).toArray)=⟨(encT (a++b)).toArray⟩:=by
 apply Nu.k0a;simp[ByteArray.data_append,m0b]
theorem e1l (c:Kx)(m:M):(putL c m).1.size≤1000:=by
 cases h:okL m
 · rw[q0n h];exact Nat.zero_le _
 cases hb:badC c m
 · rw[i0m h hb,m0z];exact(Lv.k0w h hb).2
 · rw[n1b h hb];exact Nat.zero_le _
theorem St.step {l:List M}{k:Nat}{c:Kx}{s:ByteArray}(h:St l k c s)(hk:k<l.length)(ho:okL l[k]=true) :
    (¬(putL c l[k]).2.2=0→outE l=(ByteArray.empty,(k:Int),(putL c l[k]).2.2))∧
    ((putL c l[k]).2.2=0→65531<(s++(putL c l[k]).1).size→outE l=(ByteArray.empty,(k:Int),10))∧
    ((putL c l[k]).2.2=0→¬65531<(s++(putL c l[k]).1).size→St l (k+1) (putL c l[k]).2.1 (s++(putL c l[k]).1)):=by
 obtain⟨a,ha,rfl,hz,hc,he⟩:=h;rw[List.drop_eq_getElem_cons hk]at he;cases hb:badC c l[k]
 · rw[i0m ho hb,i1n,m0z]
   refine⟨fun h=>absurd rfl h,fun _ h=>?_,fun _ h=>⟨a++elsL c l[k],c0d ha (b1a ho hb),rfl,by omega,w0e hc ho hb,?_⟩⟩
   · rw[he]
     show(if _ then _ else if _ then _ else _)=_
     rw[if_neg (by rw[hb];decide),if_pos h]
   · rw[he]
     show(if _ then _ else if _ then _ else _)=_
     rw[if_neg (by rw[hb];decide),if_neg h]
     push_cast;rfl
 · rw[n1b ho hb]
   refine⟨fun _=>?_,fun h=>absurd (show(9:Int)=0 from h) (by decide),fun h=>absurd (show(9:Int)=0 from h) (by decide)⟩
   rw[he]
   show(if _ then _ else _)=_
   rw[if_pos hb]
theorem St.done {l:List M}{c:Kx}{s:ByteArray}(h:St l l.length c s):outE l=(wrap s,0,0):=by
 obtain⟨a,ha,rfl,hz,hc,he⟩:=h;rw[he,List.drop_length];rfl
end O3
namespace O7
open Ms Own All An
open G1 (bare okF)
open J1 (okJ)
open K1 Kb
open L1 (canM m0c)
open I1 (Sml)
open L2 O1 O2 O3
open F1 (encT)
def zz (m:M):M:={ m with sa:=none,sc:=0}
theorem c1f (m:M):fieldsOf (zz m)=zz (fieldsOf m):=by
 unfold fieldsOf;simp only[apply_ite zz];rfl
theorem y1q (m:M):ownM (zz m)=zz (ownM m):=by
 unfold ownM;rw[c1f]
 show(if isKind m=true then _ else _)=_
 split<;>rfl
theorem t0u (m:M):bare (zz m)=bare m:=by
 unfold bare;rw[y1q];rfl
theorem t0x (m:M):J1.bare (zz m)=J1.bare m:=t0u m
theorem f1g (m:M):okF (zz m)=okF m:=by unfold okF;rw[t0u];rfl
theorem f1j (m:M):okJ (zz m)=okJ m:=by unfold okJ;rw[t0x];rfl
theorem z0u (m:M):okL (zz m)=okL m:=by
 unfold okL;rw[f1g,f1j];unfold okU okO
 first|rw[t0x]|rw[t0u]
 rfl
theorem j1q (m:M)(c:Kx):badC c (zz m)=badC c m∧elsL c (zz m)=elsL c m∧ctxL c (zz m)=ctxL c m:=by
 refine⟨rfl,?_,rfl⟩;unfold elsL othE;rw[f1g,f1j];rfl
theorem p1c:∀ (l:List M) (c:Kx) (a:List F1.El) (i:Int),outW (l.map zz) c a i=outW l c a i
  | [],_,_,_=>rfl
  | m::l,c,a,i=>by
      obtain⟨h1,h2,h3⟩:=j1q m c
      show(if badC c (zz m)=true then _ else if 65531<(encT (a++elsL c (zz m))).length then _ else outW (l.map zz) (ctxL c (zz m)) (a++elsL c (zz m)) (i+1))=(if badC c m=true then _ else if 65531<(encT (a++elsL c m)).length then _ else outW l (ctxL c m) (a++elsL c m) (i+1))
      rw[h1,h2,h3,p1c l]
theorem r0v:∀ (l:List M) (i:Int),wrongAt (l.map zz) i=wrongAt l i
  | [],_=>rfl
  | m::l,i=>by
      show(if okL (zz m)=true then wrongAt (l.map zz) (i+1)else i)=(if okL m=true then wrongAt l (i+1)else i)
      rw[z0u,r0v l]
theorem l1r (l:List M):(l.map zz).all okL=l.all okL:=by
 induction l with
 | nil=>rfl
 | cons m l ih=>rw[List.map_cons,List.all_cons,List.all_cons,z0u,ih]
theorem a1c (l:List M):outE (l.map zz)=outE l:=by
 unfold outE;rw[l1r,p1c,r0v]
theorem h1s {x y:List M}(h:PlL x y):x.map zz=y.map zz:=by
 refine List.ext_getElem (by rw[List.length_map,List.length_map];exact h.1) fun i h1 h2=>?_
 rw[List.getElem_map,List.getElem_map]
 have e:Pl _ _:=h.2 i (by simpa using h1) (by simpa using h2)
 exact(congrArg zz e).trans rfl
theorem v1m {x y:List M}(h:PlL x y):outE x=outE y:=by rw[←a1c x,h1s h,a1c]
theorem k1q {m:M}(h:okL m=true):m.pfx.size≤16:=by
 have hp:m.pfx=(ownM m).pfx:=(congrArg M.pfx (j0g h)).symm;by_cases k:m.kind=11
 · exact J2.k0i ((m0c m).1 (ok_u h k)).pfx
 rcases ok_not h k with hF|⟨_,hJ⟩|⟨_,_,hO⟩
 · have:(ownM m).pfx=ByteArray.empty:=by
    rcases G1.kind_cases ((G1.x0a m).1 hF).kind with k|k|⟨k,_⟩|⟨k,_⟩
    · rw[(G1.is_7 k).2];rfl
    · rw[(G1.is_8 k).2];rfl
    · rw[(G1.is_9 k).2];rfl
    · rw[(G1.f0m k).2];rfl
   rw[hp,this];exact Nat.zero_le _
 · exact J2.k0i ((J1.x0a m).1 hJ).pfx
 · have k14:m.kind=14:=by
    unfold okO at hO;simp only[Bool.and_eq_true,decide_eq_true_eq]at hO;exact hO.1
   rw[hp,(L1.k0n k14).2];exact Nat.zero_le _
theorem g1p {m:M}(h:okL m=true)(hs:Sml m):Sp m:=by
 obtain⟨_,h2,_,h4,h5⟩:=hs
 exact⟨by rw[h2];exact Nat.zero_le _,by omega,h5,by have:=k1q h;unfold maxLen;omega⟩
theorem u0v {l:List M}(h:l.all okL=true):sameL l (l.map canM)=true:=by
 refine s0g (by rw[List.length_map]) fun i h1 h2=>?_
 rw[List.getElem_map];exact s1n h _ (List.getElem_mem h1)
end O7
namespace U1
open Ms All F1
open L1 (canM)
open L2 (okL)
open I1 (outP outI foldI one Sml r0r j0q h0r n0n d0e w0f)
open O1 (outE)
open O3 (Sp)
noncomputable def okS (p:Int)(m:M):Bool:=if p=1 then Rp.rightB m else if p=2 then NRp.rightB m else if p=3 then A1.okA m else if p=4 then okL m else false
noncomputable def outS (p:Int)(b:ByteArray):List M×Int×Int:=if p=1 then Ps.out b else if p=2 then NRp.out b else if p=3 then A1.outA b else if p=4 then outP b else([],0,1)
noncomputable def encS (p:Int)(l:List M):ByteArray×Int×Int:=if p=1 then Es.enc l else if p=2 then NRp.enc l else if p=3 then A1.encL l else if p=4 then outE l else(⟨#[]⟩,0,1)
theorem q0l {p:Int}{m:M}(h:¬(1≤p∧p≤4)):okS p m=false:=by unfold okS;rw[if_neg (by omega),if_neg (by omega),if_neg (by omega),if_neg (by omega)]
theorem u0e {p:Int}{b:ByteArray}(h:¬(1≤p∧p≤4)):outS p b=([],0,1):=by unfold outS;rw[if_neg (by omega),if_neg (by omega),if_neg (by omega),if_neg (by omega)]
theorem q1q {p:Int}{l:List M}(h:¬(1≤p∧p≤4)):encS p l=(⟨#[]⟩,0,1):=by unfold encS;rw[if_neg (by omega),if_neg (by omega),if_neg (by omega),if_neg (by omega)]
theorem r0u {p:Int}{m:M}(h:okS p m=true):(p=1∧m.kind=1)∨(p=2∧m.kind=2)∨(p=3∧3≤m.kind∧m.kind≤6)∨(p=4∧7≤m.kind):=by
 unfold okS at h;split at h
 · refine .inl ⟨‹_›,?_⟩;unfold Rp.rightB at h;simp only[Bool.and_eq_true,beq_iff_eq]at h;exact h.1
 split at h
 · refine .inr (.inl ⟨‹_›,?_⟩);unfold NRp.rightB at h;simp only[Bool.and_eq_true,beq_iff_eq]at h;exact h.1
 split at h
 · refine .inr (.inr (.inl ⟨‹_›,?_⟩))
   rcases A1.ok_cases h with⟨h,_⟩|⟨h,_⟩|⟨h,_⟩<;>omega
 split at h
 · refine .inr (.inr (.inr ⟨‹_›,?_⟩));by_cases k:m.kind=11
   · omega
   rcases L2.ok_not h k with h|⟨_,h⟩|⟨_,_,h⟩
   · exact(L2.m0f h).1
   · have:=L2.h0g h;omega
   · have:=(L2.b0f h).1;omega
 · cases h
theorem ok_one {p q:Int}{m:M}(h:okS p m=true)(k:okS q m=true):p=q:=by
 have:=r0u h;have:=r0u k;omega
def Rel (p:Int)(l l':List M):Prop:=A2.PlL l l'∧(p≤2→l=l')∧(p=4→Kb.PlL l l')
theorem Rel.nil (p:Int):Rel p [] []:=⟨A2.PlL.nil,fun _=>rfl,fun _=>⟨rfl,fun i h=>absurd h (by simp)⟩⟩
theorem Rel.eq {p:Int}(h:p≤2)(l:List M):Rel p l l:=⟨A2.PlL.refl l,fun _=>rfl,fun k=>absurd h (by omega)⟩
theorem Rel.aodv {l l':List M}(h:A2.PlL l l'):Rel 3 l l':=⟨h,fun k=>absurd k (by decide),fun k=>absurd k (by decide)⟩
theorem Rel.babel {l l':List M}(h:Kb.PlL l l'):Rel 4 l l':=⟨⟨h.1,fun i h1 h2=>by
  have e:An.Pl _ _:=h.2 i h1 h2
  show l[i]=_
  rw[show l[i]=_ from e]⟩,fun k=>absurd k (by decide),fun _=>h⟩
theorem Rel.len {p:Int}{l l':List M}(h:Rel p l l'):l.length=l'.length:=h.1.1
theorem Rel.at {p:Int}{l l':List M}(h:Rel p l l'){i:Nat}(h1:i<l.length)(h2:i<l'.length):Am.Pl l[i] l'[i]:=h.1.2 i h1 h2
theorem pl_a {n m:M}(h:Am.Pl n m):A1.okA n=A1.okA m∧A1.encA n=A1.encA m:=⟨A1.k0k h,A1.r0q h⟩
theorem r1o {l l':List M}(h:A2.PlL l l'):A1.encL l=A1.encL l':=by
 have e:∀ i (h1:i<l.length) (h2:i<l'.length),A1.okA l[i]=A1.okA l'[i]∧A1.encA l[i]=A1.encA l'[i]:=fun i h1 h2=>pl_a (h.2 i h1 h2)
 have hn:=h.1
 rcases A1.enc_cases l' with⟨k,hk,h1,h2⟩|⟨ha,h0|h0|h0⟩
 · rw[A1.g0d hk h1 h2]
   exact A1.g0d (by omega) (fun i hi hik=>by rw[(e i hi (by omega)).1];exact h1 i (by omega) hik) (by rw[(e k (by omega) hk).1];exact h2)
 · rw[A1.q0e h0,A1.q0e (by omega)]
 · rw[A1.x0m ha h0,A1.x0m (fun i hi=>by rw[(e i hi (by omega)).1];exact ha i (by omega)) (by omega)]
 · obtain⟨m',rfl⟩:=List.length_eq_one_iff.1 h0;obtain⟨m,rfl,hp⟩:=h.at_one;obtain⟨e1,e2⟩:=pl_a hp
   have hm:A1.okA m'=true:=ha 0 (by simp)
   by_cases hz:65535<(A1.encA m').size
   · rw[A1.f0n hm hz,A1.f0n (by rw[e1];exact hm) (by rw[e2];exact hz)]
   · rw[A1.v0k hm hz,A1.v0k (by rw[e1];exact hm) (by rw[e2];exact hz),e2]
theorem w1c {p:Int}{l l':List M}(h:Rel p l l'):encS p l=encS p l':=by
 unfold encS;by_cases h1:p=1
 · rw[h.2.1 (by omega)]
 by_cases h2:p=2
 · rw[h.2.1 (by omega)]
 rw[if_neg h1,if_neg h1,if_neg h2,if_neg h2];by_cases h3:p=3
 · rw[if_pos h3,if_pos h3,r1o h.1]
 rw[if_neg h3,if_neg h3];by_cases h4:p=4
 · rw[if_pos h4,if_pos h4,O7.v1m (h.2.2 h4)]
 · rw[if_neg h4,if_neg h4]
theorem m1p {p:Int}{l l':List M}(h:Rel p l l'){i:Nat}(h1:i<l.length)(h2:i<l'.length):okS p l[i]=okS p l'[i]:=by
 by_cases hp:p≤2
 · obtain rfl:=h.2.1 hp;rfl
 have n1:¬p=1:=by omega
 have n2:¬p=2:=by omega
 unfold okS;simp only[if_neg n1,if_neg n2];by_cases h3:p=3
 · simp only[if_pos h3];exact(pl_a (h.at h1 h2)).1
 simp only[if_neg h3];by_cases h4:p=4
 · simp only[if_pos h4];have e:An.Pl _ _:=(h.2.2 h4).2 i h1 h2;have ez:O7.zz l[i]=O7.zz l'[i]:=(congrArg O7.zz e).trans rfl;rw[←O7.z0u l[i],ez,O7.z0u]
 · simp only[if_neg h4]
def Cond (p:Int)(m:M):Prop:=Short m∧(p=3→A3.Sm m)∧(p=4→Sp m)
theorem Cond.sp {p:Int}{m:M}(h:Sp m):Cond p m:=⟨h.short,fun _=>⟨h.1,h.2.1,h.2.2.1⟩,fun _=>h⟩
theorem x0p {p:Int}{l l':List M}(h:Rel p l l')(hs:∀ m∈l',Cond p m):∀ m∈l,Cond p m:=fun m hm=>by
  obtain⟨i,hi,rfl⟩:=List.getElem_of_mem hm
  have hiy:i<l'.length:=by rw[←h.len];exact hi
  have e:=h.at hi hiy
  obtain⟨c1,c2,c3⟩:=hs _ (List.getElem_mem hiy)
  have e1:l[i].ll=l'[i].ll:=by rw[show l[i]=_ from e]
  have e2:l[i].sl=l'[i].sl:=by rw[show l[i]=_ from e]
  have e3:l[i].pfx=l'[i].pfx:=by rw[show l[i]=_ from e]
  unfold Cond Short A3.Sm Sp
  rw[e1,e2,e3]
  exact⟨c1,c2,c3⟩
theorem Cond.shorts {p:Int}{l:List M}(h:∀ m∈l,Cond p m):∀ m∈l,Short m:=fun m hm=>(h m hm).1
theorem o1c:∀ (l:List T) (c:K1.Kx) (o:List M),¬(foldI l c o).2.2.2=0→(foldI l c o).1 = []∧∃ x∈l,(foldI l c o).2.2.1=x.1
  | [],c,o,h=>absurd rfl h
  | x::l,c,o,h=>by
      by_cases h0:(one c x.2.2 x.2.1).2.2=0
      · rcases hp:one c x.2.2 x.2.1 with⟨c',r,e⟩
        rw[hp]at h0
        obtain rfl:e=0:=h0
        rw[d0e hp]at h⊢
        obtain⟨h1,y,hy,h2⟩:=o1c l _ _ h
        exact⟨h1,y,List.mem_cons_of_mem _ hy,h2⟩
      · rw[w0f h0]
        exact⟨rfl,x,List.mem_cons_self,rfl⟩
theorem i0t:∀ (l:List F1.El) (p:Int),∀ x∈placed p l,p≤x.1∧x.1≤p+((encT l).length:Int)
  | [],p=>fun x hx=>absurd hx (by simp[placed])
  | y::l,p=>fun x hx=>by
      rw[placed]at hx
      rw[c0c,List.length_append]
      rcases List.mem_cons.1 hx with rfl|hx
      · exact⟨Int.le_refl _,by show p≤_;omega⟩
      · have:=i0t l _ x hx
        omega
theorem w1b {p:Int}{s:ByteArray}(h:¬(outT p s).2.2=0):p≤(outT p s).2.1∧(outT p s).2.1≤p+(s.size:Int):=by
 rcases F1.out_cases p s with⟨l,_,_,h1⟩|⟨l,r,_,h1,_,_,h2⟩
 · rw[h1]at h;exact absurd rfl h
 · rw[h2];have:=congrArg List.length h1;rw[List.length_append]at this
   have hz:s.data.toList.length=s.size:=by simp
   show p≤p+_∧p+((encT l).length:Int)≤_
   omega
theorem o1m {b:ByteArray}(h:¬(outB b).2.2=0):0≤(outB b).2.1∧(outB b).2.1≤(b.size:Int):=by
 unfold outB at h⊢
 rcases hh:head b with _|⟨i,x⟩
 · rw[hh]at h;exact absurd rfl h
 · show 0≤i∧i≤_
   unfold head at hh
   repeat' (split at hh)
   all_goals(first|(injection hh with hh;injection hh with h1 _;subst h1;omega)|cases hh)
theorem n1i {b:ByteArray}(h:¬(outP b).2.2=0):(outP b).1 = []∧0≤(outP b).2.1∧(outP b).2.1≤(b.size:Int):=by
 by_cases h1:(outB b).2.2=0;rotate_left
 · rw[r0r h1];exact⟨rfl,o1m h1⟩
 rcases I2.outB_two b with⟨i,e,he,h2⟩|⟨s,hh,h2,_⟩
 · rw[h2]at h1;exact absurd h1 he
 obtain⟨z1,z2,_,_,z3⟩:=r1c hh
 have hs:s=b.extract 4 (4+bodyN b):=by
  have:=h2;unfold outB at this;rw[hh]at this
  injection this with this _
  exact this.symm
 have hsz:s.size=bodyN b:=by rw[hs,ByteArray.size_extract];omega
 have htz:(trail b).size=b.size - (4+bodyN b):=by unfold trail;rw[ByteArray.size_extract];omega
 by_cases h3:(outT 4 s).2.2=0;rotate_left
 · rw[j0q h2 h3];have:=w1b h3
   exact⟨rfl,by show 0≤(outT 4 s).2.1;omega,by show(outT 4 s).2.1≤_;omega⟩
 by_cases h4:(outT (4+(s.size:Int)) (trail b)).2.2=0;rotate_left
 · rw[h0r h2 h3 h4];have:=w1b h4
   exact⟨rfl,by show 0≤(outT _ _).2.1;omega,by show(outT _ _).2.1≤_;omega⟩
 rw[n0n h2 h3 h4]at h⊢;obtain⟨f1,x,hx,f2⟩:=o1c _ _ _ h;refine⟨f1,?_⟩
 rcases F1.out_cases 4 s with⟨l,_,q1,q2⟩|⟨l,r,_,q1,_,_,q2⟩
 · rw[q2]at hx;have:=i0t l 4 x hx;have hz:=congrArg List.length q1
   have hy:s.data.toList.length=s.size:=by simp
   show 0≤(foldI (outT 4 s).1 K1.Kx.zero []).2.2.1∧(foldI (outT 4 s).1 K1.Kx.zero []).2.2.1≤_
   rw[f2];omega
 · rw[q2]at h3;exact absurd h3 (by simp)
theorem w0d {p:Int}{b:ByteArray}(h:¬(outS p b).2.2=0):(outS p b).1 = []∧0≤(outS p b).2.1∧(outS p b).2.1≤(b.size:Int):=by
 unfold outS at h⊢;split at h
 · rw[if_pos ‹_›];exact Ma.r1n b h
 rw[if_neg ‹_›];split at h
 · rw[if_pos ‹_›]
   rcases NMa.k1c b with⟨_,h⟩|⟨n,g⟩
   · exact h
   · rw[g.o]at h;exact absurd rfl h
 rw[if_neg ‹_›];split at h
 · rw[if_pos ‹_›]
   rcases A1.out_cases b with⟨i,e,h1,_,h2,h3⟩|⟨m,h1,_⟩
   · rw[h1];exact⟨rfl,h2,h3⟩
   · rw[h1]at h;exact absurd rfl h
 rw[if_neg ‹_›];split at h
 · rw[if_pos ‹_›];exact n1i h
 · rw[if_neg ‹_›];exact⟨rfl,Int.le_refl _,Int.natCast_nonneg _⟩
structure Comes (p:Int)(l:List M)(b:ByteArray)(l':List M):Prop where
  out:outS p b=(l',0,0)
  same:sameL l l'=true
  size:b.size≤65535
  cond:∀ m∈l',Cond p m
theorem x1o (b:ByteArray):outS 1 b=Ps.out b:=rfl
theorem d1p (b:ByteArray):outS 2 b=NRp.out b:=rfl
theorem e1p (b:ByteArray):outS 3 b=A1.outA b:=rfl
theorem i1p (b:ByteArray):outS 4 b=outP b:=rfl
theorem v1s (l:List M):encS 1 l=Es.enc l:=rfl
theorem l1s (l:List M):encS 2 l=NRp.enc l:=rfl
theorem a1p (l:List M):encS 3 l=A1.encL l:=rfl
theorem u1s (l:List M):encS 4 l=outE l:=rfl
theorem k0l {p:Int}(hp:p≤2){l:List M}(h:Ap.Flat l):∀ m∈l,Cond p m:=fun m hm=>⟨⟨by rw[(h m hm).1];exact Nat.zero_le _,by rw[(h m hm).2];exact Nat.zero_le _⟩,fun k=>absurd hp (by omega),fun k=>absurd hp (by omega)⟩
theorem range {p:Int}(h1:1≤p)(h4:p≤4):p=1∨p=2∨p=3∨p=4:=by omega
theorem o0x (l:List UInt8):(ByteArray.mk l.toArray).size=l.length:=by simp[ByteArray.size]
theorem w1k {m n:M}(h:M.same m n=true):sameL [m] [n]=true:=s0g rfl fun i h1 h2=>by
  obtain rfl:i=0:=by(simp at h1;exact h1)
  exact h
theorem back {p:Int}(h1:1≤p)(h4:p≤4){l:List M}(hl:l.length≤40)(hs:∀ m∈l,m.ll.length≤300∧m.sl.length≤60∧Sp m) :
    (∃ i e,encS p l=(⟨#[]⟩,i,e)∧¬e=0∧0≤i∧i≤(l.length:Int))∨∃ b l',encS p l=(b,0,0)∧Comes p l b l':=by
 rcases range h1 h4 with rfl|rfl|rfl|rfl
 · rw[v1s]
   rcases Mb.y0t l with⟨e,h2,h3,h4⟩|⟨W,h⟩
   · exact .inl ⟨_,_,by rw[←h2],e,h3,h4⟩
   · obtain⟨l',w1,w2,w3,w4⟩:=Mb.n0p W;obtain⟨p0,s1,s2⟩:=Mb.f1h W
     exact .inr ⟨_,l',h,⟨by rw[x1o];exact w1,w2,by rw[o0x];omega,k0l (by decide) w4⟩⟩
 · rw[l1s]
   rcases NMa.y0t l with⟨e,h2,h3,h4⟩|⟨W,h⟩
   · exact .inl ⟨_,_,by rw[←h2],e,h3,h4⟩
   · obtain⟨w1,w2⟩:=NMa.n0p W (by omega)
     have:=NMa.t0q l NRp.a0c
     exact .inr ⟨_,_,h,⟨by rw[d1p];exact w1,NMa.a1j W,by rw[o0x];omega,k0l (by decide) (NMa.o1e _ _)⟩⟩
 · rw[a1p]
   rcases A1.enc_cases l with⟨k,hk,h2,h3⟩|⟨ha,h0|h0|h0⟩
   · exact .inl ⟨_,_,A1.g0d hk h2 h3,by decide,by omega,by omega⟩
   · exact .inl ⟨_,_,A1.q0e h0,by decide,by omega,by omega⟩
   · exact .inl ⟨_,_,A1.x0m ha h0,by decide,by omega,by omega⟩
   · obtain⟨m,rfl⟩:=List.length_eq_one_iff.1 h0
     have hm:A1.okA m=true:=ha 0 (by simp)
     obtain⟨f1,f2,f3⟩:=hs m (by simp)
     by_cases hz:65535<(A1.encA m).size
     · exact .inl ⟨_,_,A1.f0n hm hz,by decide,by decide,by simp⟩
     · obtain⟨n,n1,n2,n3,n4⟩:=A1.u1n hm (by omega)
       refine .inr ⟨_,_,A1.v0k hm hz,⟨by rw[e1p];exact n1,w1k n2,by omega,fun x hx=>?_⟩⟩
       obtain rfl:x=n:=by simpa using hx
       exact⟨⟨by omega,by rw[n4];omega⟩,fun _=>⟨by omega,by rw[n4];omega,by rw[n4];exact f3.2.2.1⟩,fun k=>absurd k (by decide)⟩
 · rw[u1s]
   rcases O1.enc_cases l with⟨h0,a,c,g1,g2,g3,_,g5,g6,g7,g8,_⟩|⟨h0,j,e,he,j1,j2,h⟩|⟨_,hn,j,j1,j2,h⟩
   · refine .inr ⟨_,_,g3,⟨by rw[i1p];exact g5,O7.u0v h0,by omega,fun x hx=>?_⟩⟩
     obtain⟨y,hy,rfl⟩:=List.mem_map.1 hx;obtain⟨f1,f2,f3⟩:=hs y hy;have hk:=List.all_eq_true.1 h0 y hy;rw[O2.j0g hk];exact Cond.sp ⟨Nat.zero_le _,f3.2.1,f3.2.2.1,f3.2.2.2⟩
   · exact .inl ⟨j,e,h,by omega,j1,by omega⟩
   · exact .inl ⟨j,1,h,by decide,j1,by omega⟩
structure Again (p:Int)(b:ByteArray)(l:List M)(s:ByteArray)(l':List M):Prop where
  ok:∀ m∈l,okS p m=true
  enc:encS p l=(s,0,0)
  out:outS p s=(l',0,0)
  enc2:encS p l'=(s,0,0)
  same:sameL l l'=true
  own:p=1∨p=3→s=b
  size:s.size≤65535
  c1:∀ m∈l,Cond p m
  c2:∀ m∈l',Cond p m
  n1:l.length≤2000
  n2:l'.length≤2000
  n3:p=4∨l.length≤1000
  n4:p=4∨l'.length≤1000
theorem again {p:Int}(h1:1≤p)(h4:p≤4){b:ByteArray}(hb:b.size≤1500)(h:(outS p b).2.2=0):∃ l s l',outS p b=(l,0,0)∧Again p b l s l':=by
 rcases range h1 h4 with rfl|rfl|rfl|rfl
 · rw[x1o]at h⊢;obtain⟨n,p0,au,g⟩:=Ma.d0f h
   have hh:(Ps.hdM b).ll = []∧(Ps.hdM b).sl = []:=by rw[g.hd];exact⟨rfl,rfl⟩
   have hn:n≤25:=Nat.le_trans g.n2 (by unfold Es.most;split<;>omega)
   have hlen:=Ps.q0g (Ps.hdM b) b p0 n
   have hc:=k0l (p:=1) (by decide) (Rr.g0k (Ps.hdM b) b p0 n hh.1 hh.2)
   refine⟨_,b,_,g.out,⟨fun m hm=>?_,g.back,g.out,g.back,Kb.w0l _,fun _=>rfl,by omega,hc,hc,by omega,by omega,by omega,by omega⟩⟩
   unfold Ps.rts at hm;obtain⟨i,hi,rfl⟩:=List.mem_map.1 hm;exact(g.ent (List.mem_range.1 hi)).1
 · rw[d1p]at h⊢
   rcases NMa.k1c b with⟨h0,_⟩|⟨n,g⟩
   · exact absurd h h0
   obtain⟨S,s1,s2,s3,s4⟩:=g.back (by omega)
   have hc:=k0l (p:=2) (by decide) (NPa.g0k b n)
   refine⟨_,S,_,g.o,⟨fun m hm=>?_,s1,s3,s1,Kb.w0l _,fun k=>absurd k (by decide),by omega,hc,hc,by omega,by omega,by omega,by omega⟩⟩
   refine(NMa.o0m g.c _ _ (by unfold NRp.nextB;rw[NRp.f0r];rfl) (fun e he=>?_) m hm).1
   unfold NRp.esK at he;obtain⟨i,hi,rfl⟩:=List.mem_map.1 he;have hi:=List.mem_range.1 hi;have hn:=g.sz
   exact⟨NMa.g0v _ (by simp;omega),g.ck i hi⟩
 · rw[e1p]at h⊢
   rcases A1.out_cases b with⟨i,e,h1,he,_⟩|⟨m,g1,g2,g3,g4,g5,g6⟩
   · rw[h1]at h;exact absurd h he
   have ge:A1.encL [m]=(b,0,0):=by rw[A1.v0k g2 (by rw[g3];omega),g3]
   have hc:∀ x∈[m],Cond 3 x:=fun x hx=>by
    obtain rfl:x=m:=by simpa using hx
    exact⟨⟨by omega,by omega⟩,fun _=>A3.w1s g2 g5 (by omega),fun k=>absurd k (by decide)⟩
   refine⟨[m],b,[m],g1,⟨fun x hx=>?_,ge,g1,ge,Kb.w0l _,fun _=>rfl,g4,hc,hc,by simp,by simp,by simp,by simp⟩⟩
   obtain rfl:x=m:=by simpa using hx
   exact g2
 · rw[i1p]at h⊢
   obtain⟨s,g1,g2,g3,g4,g5,g6⟩:=O2.again (by omega) h
   have hsm:=I1.l1i b;have hlen:=I2.x1h b
   have hz:(outP b).2.1=0:=by
    obtain⟨s0,l0,_,_,_,_,_,_,k0,h5⟩:=I2.f0u h;rw[h5]
    rcases I1.out_cases (placed 4 l0)with⟨r,c,k,_⟩|⟨a,e',k1,k⟩
    · rw[k]
    · rw[k]at k0;exact absurd k0 k1
   obtain⟨l,i,e,hq⟩:∃ x y z,outP b=(x,y,z):=⟨_,_,_,rfl⟩;rw[hq]at h hz g1 g2 g3 g4 g6 hsm hlen;obtain rfl:e=0:=h;obtain rfl:i=0:=hz;dsimp only at g1 g2 g3 g4 hsm hlen
   have hk:=fun m (hm:m∈l)=>List.all_eq_true.1 g2 m hm
   refine⟨l,s,_,hq,⟨hk,g1,g3,g4,O7.u0v g2,fun k=>absurd k (by decide),by omega,fun m hm=>Cond.sp (O7.g1p (hk m hm) (hsm m hm)),fun m hm=>?_,by omega,by rw[List.length_map];omega,.inl rfl,.inl rfl⟩⟩
   obtain⟨y,hy,rfl⟩:=List.mem_map.1 hm;have f:=O7.g1p (hk y hy) (hsm y hy);rw[O2.j0g (hk y hy)];exact Cond.sp ⟨Nat.zero_le _,f.2.1,f.2.2.1,f.2.2.2⟩
end U1
end Go.Proofs.YtllhobicfclheaaGreatDoor
