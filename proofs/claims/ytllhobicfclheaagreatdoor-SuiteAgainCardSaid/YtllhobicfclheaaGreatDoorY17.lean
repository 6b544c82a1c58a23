/-
  A part of a proof. No conditions.
-/
import Derived.Test.YtllhobicfclheaaGreatDoorY16
namespace Go.Proofs.YtllhobicfclheaaGreatDoor
open Go.ChangeShapes Go.WideShapes Go.ChangeAt Go.RowKit
set_option linter.unusedVariables false
set_option maxRecDepth 100000
set_option maxHeartbeats 51200000
namespace Sb
def Oth (b:Nat)(w w':World):Prop:=∀ (k:Nat) (T:TypeId) (cs:Array Value),k≠b→T≠5→w.heap[k]?=some (.cells cs T (0,0))→w'.heap[k]?=some (.cells cs T (0,0))
theorem Oth.refl (b:Nat)(w:World):Oth b w w:=fun _ _ _ _ _ h=>h
theorem Oth.set {b:Nat}{w w':World}(h:Oth b w w')(i:Nat)(v:Value):Oth b w (w'.setCell ⟨b,i,none⟩ v):=fun g T cs h1 h2 h3=>(heap_setCell_other w' ⟨b,i,none⟩ g v h1).trans (h g T cs h1 h2 h3)
theorem Oth.new {b:Nat}{w w':World}(h:Oth b w w')(o:Obj):Oth b w (w'.alloc o):=fun g T cs h1 h2 h3=>(heap_alloc_old w' o (Array.getElem?_eq_some_iff.1 (h g T cs h1 h2 h3)).1).trans (h g T cs h1 h2 h3)
theorem Oth.grown {b B size n:Nat}{w w' w'':World}{v:Value}{xs:List Value}(h:Oth b w w')(hown:w'.ownsRow B 5 1 v n xs)(hg:w'.grownBy w'' v.ownBlock):Oth b w w'':=fun g T cs h1 h2 h3=>by
  have h4:=h g T cs h1 h2 h3
  rw[hg.block g (Array.getElem?_eq_some_iff.1 h4).1 (fun e=>Lib.ownBlock_ne hown h4 h2 e.symm)]
  exact h4
def Bld (B b:Nat)(l:List UInt8)(w:World):Prop:=Lib.IsBuilder 131 5 B b (Lib.byteCells l) w
theorem infoB:(Tryz.prog.info? 5).map (fun i=>(i.zero,i.size,i.bytes))=some (some (.int .u8 0),1,1):=by kernel_rfl
theorem sizeB:(Tryz.prog.info? 131).map (·.size)=some 2:=by kernel_rfl
theorem liesB:liesAt Tryz.prog Tryz.prog.depth 131 (2 / Tryz.prog.cellsOf 131) 0 131 1=true:=by kernel_rfl
theorem d1a (b:Nat)(w:World)(h0:w.cell? ⟨b,0,none⟩=some (.pointer (some ⟨b,0,none⟩))) :
    Calls Tryz.prog 257 #[.pointer (some ⟨b,0,none⟩)] w fun e w'=>e = .returned (.tuple #[])∧w'=w:=by
 obtain⟨j,hj,_⟩:=Option.map_eq_some_iff.1 sizeB;go_in;go_wp2;rw[Lib.run_neq_ptr_same w _ Tryz.underlying129 hj];go_wp2;go_end0;exact⟨rfl,rfl⟩
theorem m0v (b:Nat)(w:World)(h0:w.cell? ⟨b,0,none⟩=some (.pointer none))(hsh:w.shape? b=some (131,2))(hfz:w.frozen? ⟨b,0,none⟩=false) :
    Calls Tryz.prog 257 #[.pointer (some ⟨b,0,none⟩)] w fun e w'=>e = .returned (.tuple #[])∧w'=w.setCell ⟨b,0,none⟩ (.pointer (some ⟨b,0,none⟩)):=by
 obtain⟨j,hj,hjs⟩:=Option.map_eq_some_iff.1 sizeB;go_in;go_wp2
 rw[Lib.run_to_unsafe w ⟨b,0,none⟩ Tryz.underlying129 Tryz.underlying220 hj (by rw[hjs];decide) hsh (Nat.zero_lt_succ 1)]
 simp only[Result.andThen];rw[Oper.upon_value];go_wp2
 rw[run_callFunc_extern Tryz.func301 (by kernel_rfl) (by kernel_rfl) (by kernel_rfl) (e:=Extern.AbiNoEscape.same) (by kernel_rfl)]
 rw[Lib.run_noEscape];simp only[Result.andThen];rw[Oper.upon_value];go_wp2;rw[Lib.run_from_unsafe w ⟨b,0,none⟩ Tryz.underlying220 Tryz.underlying129 hj hsh liesB];simp only[Result.andThen];rw[Oper.upon_value];go_wp2;go_end0;exact⟨rfl,rfl⟩
theorem n0e (B b:Nat)(l:List UInt8)(w:World)(h:Bld B b l w) :
    Calls Tryz.prog 257 #[.pointer (some ⟨b,0,none⟩)] w fun e w'=>e = .returned (.tuple #[])∧Lib.BuilderAt 131 5 B b (.pointer (some ⟨b,0,none⟩)) (Lib.byteCells l) w'∧Below B w w'∧Oth b w w':=by
 rcases h with h|h
 · refine(m0v b w h.cell0 h.shape h.frozen0).mono ?_;refine' qz2k;exact⟨rfl,h.used _,(Below.refl B w).setCell (p:=⟨b,0,none⟩) h.1 _,(Oth.refl b w).set 0 _⟩
 · refine(d1a b w h.cell0).mono ?_;refine' qz2k;exact⟨rfl,h,Below.refl B _,Oth.refl b _⟩
theorem z0d {w:World}{b:Nat}{o:Obj}(h:w.heap[b]?=some o):b<w.heap.size:=by
 rcases Nat.lt_or_ge b w.heap.size with h'|h'
 · exact h'
 · simp[Array.getElem?_eq_none h']at h
theorem neT:(131:TypeId)≠5:=by decide
theorem r0x (B b:Nat)(l:List UInt8)(c:UInt8)(w:World)(h:Bld B b l w)(hlen:l.length+1≤140737488355328)(hBw:B≤w.heap.size) :
    Calls Tryz.prog 284 #[.pointer (some ⟨b,0,none⟩),.int .u8 (c.toNat:Int)] w fun e w'=>e = .returned .nilIface∧Bld B b (l ++ [c]) w'∧Below B w w'∧Oth b w w':=by
 obtain⟨i0,hi,hz0,hz1,hz2⟩:=info_parts infoB;have hbl:=Lib.hid (Lib.byteCells_length l)
 have hcs:Lib.byteCells (l ++ [c])=Lib.byteCells l ++ [.int .u8 (c.toNat:Int)]:=by rw[Lib.byteCells_append];rfl
 generalize (c.toNat:Int)=ci at *;go_in;go_wp2_with (go_at_call 257;refine(n0e B b l _ h).mono ?_);rintro e w1 ⟨rfl,h1,hb1,ho1⟩;have HO1:=Lib.hid ho1;clear ho1;obtain⟨hB,v,hbk,hown,hne⟩:=h1
 have c0:w1.cell? ⟨b,0,none⟩=some (.pointer (some ⟨b,0,none⟩)):=by rw[Lib.cell_of_heap hbk];rfl
 have c1:w1.cell? ⟨b,1,none⟩=some v:=by rw[Lib.cell_of_heap hbk];rfl
 go_wp2_with (at_builtin;refine wpList_append_own _ rfl _ _ 96 rfl B 5 i0 (.int .u8 0) 1 1 Tryz.underlying96 hi hz0 hz1 hz2 rfl (by decide) _ _ _ rfl (hown.alloc _) ⟨w1.heap.size,0,none⟩ 1 1 [.int .u8 ci] rfl rfl ?c1 ?c2 ?c3 ?c4 ?c5 ?_)
 case c1=>
  intro j u hj
  match j,hj with
  | 0,hj=>simp at hj;subst hj;simp[Addr.add]
 case c2=>intro u hu;simp at hu;subst hu;rfl
 case c3=>have:=hbl.out;unfold maxLen;omega
 case c4=>have:=hbl.out;omega
 case c5=>have:=hb1.size;simp;omega
 intro v' w2 hown' hgrow _;have hlt:b<w1.heap.size:=z0d hbk
 have hb2:w2.heap[b]?=some (.cells #[.pointer (some ⟨b,0,none⟩),v] 131 (0,0)):=by
  rw[hgrow.block b (by simp;omega) (fun e=>hne e.symm),Lib.alloc_old w1 _ b hlt]
  exact hbk
 have d0:w2.cell? ⟨b,0,none⟩=some (.pointer (some ⟨b,0,none⟩)):=by rw[Lib.cell_of_heap hb2];rfl
 have d1:w2.cell? ⟨b,1,none⟩=some v:=by rw[Lib.cell_of_heap hb2];rfl
 have f1:w2.frozen? ⟨b,1,none⟩=false:=Lib.frozen_of_heap hb2 1
 obtain⟨g,cap,rfl⟩:∃ g cap,v' = .slice (some ⟨g,0,none⟩) ((Lib.byteCells l).length+1) cap:=by
  rcases hown'.2 with⟨_,h0⟩|⟨g,cap,cur,hv,_⟩
  · omega
  · exact⟨g,cap,hv⟩
 refine' qzj;refine⟨rfl,?_,?_⟩
 · rw[Bld,hcs]
   exact .inr (Lib.BuilderAt.put (T:=131) (e:=5) hB hb2 (bs':=Lib.byteCells l ++ [.int .u8 ci]) (by simpa using hown') neT)
 · exact⟨((hb1.alloc (by have:=hb1.size;omega) _).grown hgrow (by have:=hb1.size;simp;omega) (fun k hk=>(hown.lt k hk).1)).setCell (p:=⟨b,1,none⟩) hB _,(Oth.grown (size:=0) (HO1.out.new _) (hown.alloc _) hgrow).set 1 _⟩
theorem t0f (B b:Nat)(l:List UInt8)(s:ByteArray)(w:World)(h:Bld B b l w)(hlen:l.length+s.size≤140737488355328)(hBw:B≤w.heap.size) :
    Calls Tryz.prog 193 #[.pointer (some ⟨b,0,none⟩),.string s] w fun e w'=>e = .returned (.tuple #[.int .i64 s.size,.nilIface])∧Bld B b (l++s.data.toList) w'∧Below B w w'∧Oth b w w':=by
 obtain⟨i0,hi,hz0,hz1,hz2⟩:=info_parts infoB;have hbl:=Lib.hid (Lib.byteCells_length l)
 have hcs:Lib.byteCells (l++s.data.toList)=Lib.byteCells l++Lib.strCells s:=by rw[Lib.byteCells_append,Lib.strCells_eq]
 go_in;go_wp2_with (go_at_call 257;refine(n0e B b l _ h).mono ?_);rintro e w1 ⟨rfl,h1,hb1,ho1⟩;have HO1:=Lib.hid ho1;clear ho1;obtain⟨hB,v,hbk,hown,hne⟩:=h1
 have c0:w1.cell? ⟨b,0,none⟩=some (.pointer (some ⟨b,0,none⟩)):=by rw[Lib.cell_of_heap hbk];rfl
 have c1:w1.cell? ⟨b,1,none⟩=some v:=by rw[Lib.cell_of_heap hbk];rfl
 go_wp2_with (at_builtin;refine Lib.wpList_append_own_string _ rfl _ _ 96 9 rfl B 5 i0 Tryz.underlying96 Tryz.underlying9 hi hz0 hz1 hz2 _ _ _ rfl hown s rfl ?c3 ?c4 ?c5 ?_)
 case c3=>have:=hbl.out;unfold maxLen;omega
 case c4=>have:=hbl.out;omega
 case c5=>have:=hb1.size;omega
 intro v' w2 hown' hgrow _;have hlt:b<w1.heap.size:=z0d hbk
 have hb2:w2.heap[b]?=some (.cells #[.pointer (some ⟨b,0,none⟩),v] 131 (0,0)):=by
  rw[hgrow.block b hlt (fun e=>hne e.symm)]
  exact hbk
 have d0:w2.cell? ⟨b,0,none⟩=some (.pointer (some ⟨b,0,none⟩)):=by rw[Lib.cell_of_heap hb2];rfl
 have d1:w2.cell? ⟨b,1,none⟩=some v:=by rw[Lib.cell_of_heap hb2];rfl
 have f1:w2.frozen? ⟨b,1,none⟩=false:=Lib.frozen_of_heap hb2 1
 obtain⟨ao,n',cap,rfl⟩:∃ ao n' cap,v' = .slice ao n' cap:=by
  rcases hown'.2 with⟨hv,_⟩|⟨g,cap,cur,hv,_⟩
  · exact⟨_,_,_,hv⟩
  · exact⟨_,_,_,hv⟩
 refine' qz2w;refine⟨rfl,?_,?_⟩
 · rw[Bld,hcs]
   exact .inr (Lib.BuilderAt.put (T:=131) (e:=5) hB hb2 (bs':=Lib.byteCells l++Lib.strCells s) (by simpa[Lib.strCells_length]using hown') neT)
 · exact⟨(hb1.grown hgrow (by have:=hb1.size;omega) (fun k hk=>(hown.lt k hk).1)).setCell (p:=⟨b,1,none⟩) hB _,(Oth.grown (size:=0) HO1.out hown hgrow).set 1 _⟩
theorem x0b (B b:Nat)(l:List UInt8)(w:World)(h:Bld B b l w)(hBw:B≤w.heap.size) :
    Calls Tryz.prog 194 #[.pointer (some ⟨b,0,none⟩)] w fun e w'=>e = .returned (.string ⟨l.toArray⟩)∧Below B w w':=
  Tryz.Builder_String_any B b l w h hBw
theorem t1m (w:World):Bld w.heap.size w.heap.size [] (w.alloc (.cells #[.pointer none,.slice none 0 0] 131)):=
  Lib.fresh_isBuilder _ _ w
theorem w0x {w w':World}{B e size n:Nat}{v:Value}{xs:List Value}(h:w.ownsRow B e size v n xs)(hb:Below w.heap.size w w'):w'.ownsRow B e size v n xs:=by
 refine⟨h.1,?_⟩
 rcases h.2 with h|⟨g,cap,cur,a,b,c,d⟩
 · exact .inl h
 · exact .inr ⟨g,cap,cur,a,b,by rw[hb.block g (z0d c)];exact c,d⟩
theorem a0x {B b:Nat}{l:List UInt8}{w w':World}(h:Bld B b l w)(hb:Below w.heap.size w w'):Bld B b l w':=by
 rcases h with⟨h1,v,h2,h3,h4⟩|⟨h1,v,h2,h3,h4⟩
 · exact .inl ⟨h1,v,by rw[hb.block b (z0d h2)];exact h2,w0x h3 hb,h4⟩
 · exact .inr ⟨h1,v,by rw[hb.block b (z0d h2)];exact h2,w0x h3 hb,h4⟩
end Sb
namespace Xp
open Ms Xv Sx
open Sb (Bld)
open Hs Hx Cnt
open Bk (Bk Sh loadVarK d0a f0a a0a o0a below_setRow)
def putS (l:List El):ByteArray:=if okX l then⟨(encX l).toArray⟩else⟨#[]⟩
theorem q0d {l:List El}(h:okX l=true):putS l=⟨(encX l).toArray⟩:=by unfold putS;rw[if_pos h]
theorem d0p {l:List El}(h:okX l=false):putS l=⟨#[]⟩:=by unfold putS;rw[if_neg (by rw[h];exact Bool.false_ne_true)]
theorem to8 (n:Int)(h0:0≤n)(h1:n≤255)(W:World):(convert 3 5 (.int .i64 n)).run Tryz.prog W = .ok (.int .u8 ((UInt8.ofNat n.toNat).toNat:Int)) W:=by
 rw[run_convert_int W 3 5 .i64 n (by rw[Tryz.underlying3];rfl) Tryz.underlying5]
 have hk:Tryz.prog.intKind 5 = .u8:=by kernel_rfl
 have e:((UInt8.ofNat n.toNat).toNat:Int)=n:=by rw[UInt8.toNat_ofNat'];omega
 have:(Tryz.prog.intKind 5).wrap n=n:=by
  rw[hk]
  show n%256=n
  omega
 rw[this,hk,e]
theorem l0a (a:Option Addr)(c:Nat)(l:List El)(w:World)(hl:SRow w a l)(ln:l.length≤1048576)(lb:∀ x∈l,x.1.size≤1099511627776) :
    Calls Tryz.prog 170 #[.slice a l.length c] w fun e w'=>e = .returned (.bool (okX l))∧Below w.heap.size w w':=by
 have P:=Lib.hid (e1d a c l 0 255 w hl ln lb);clear lb;refine' qz16;refine P.out.mono ?_;refine' qz75;refine' qzj;exact⟨rfl,hb⟩
theorem t0b {s t:ByteArray}{b c:Bool}(h:s=t)(k:b=c):Ending.returned (.tuple #[.string s,.bool b]) = .returned (.tuple #[.string t,.bool c]):=by rw[h,k]
theorem d0q (l:List El)(k:Nat)(h:k<l.length):encX (l.take (k+1))=encX (l.take k)++enc1 l[k]:=by
 rw[List.take_succ_eq_append_getElem h,u0o,q0x]
theorem Bld.lt {B b:Nat}{l:List UInt8}{w:World}(h:Bld B b l w):b<w.heap.size:=by
 rcases h with⟨_,v,h,_⟩|⟨_,v,h,_⟩
 · exact Sb.z0d h
 · exact Sb.z0d h
theorem neS:(50:TypeId)≠5:=by decide
theorem Bld.below {B b:Nat}{l:List UInt8}{w w':World}(h:Bld B b l w)(hb:Below w.heap.size w w'):Bld B b l w':=Sb.a0x h hb
theorem c0b (a:Option Addr)(c:Nat)(l:List El)(w:World)(hl:SRow w a l)(ln:l.length≤2000)(lb:∀ x∈l,x.1.size≤1099511627776) :
    Calls Tryz.prog 237 #[.slice a l.length c] w fun e w'=>e = .returned (.tuple #[.string (putS l),.bool (okX l)])∧Below w.heap.size w w':=by
 have P:=Lib.hid (l0a a c l w hl (by omega) lb)
 refine' qz7k;clear lb hl;by_cases hok:okX l=true;rotate_left
 · have hok:okX l=false:=by simpa using hok
   have HP:=Lib.hid (d0p hok);rw[hok]at P;have HK:=Lib.hid hok;clear hok;refine' qz16;refine P.out.mono ?_;refine' qz75;refine' qz2w;exact⟨t0b HP.out.symm HK.out.symm,hb⟩
 have HP:=Lib.hid (q0d hok);have HM:=Lib.hid (r1a hok)
 have HN:Hid (bytesN l≤514000):=Lib.hid (by have:=z0g hok;omega)
 rw[hok]at P;have HK:=Lib.hid hok;have HLn:=Lib.hid ln;clear hok ln;refine' qz16;refine P.out.mono ?_;refine' qz76;clear hb P;refine' qzco;have HG:=Lib.hid (Bk.Bk.new 131 w1 #[.pointer none,.slice none 0 0]);have HS:Hid (w.heap.size≤w1.heap.size):=Lib.hid HB.out.size;have HB:=Lib.hid (HB.out.alloc HB.out.size (.cells #[.pointer none,.slice none 0 0] 131));generalize w1.alloc (.cells #[.pointer none,.slice none 0 0] 131)=W at *;refine' qzcr
 have PB:=Lib.hid (w0k a c l W (HL.out.below HB.out) (by have:=HLn.out;omega) (by have:=HN.out;omega))
 refine' qzg;refine PB.out.mono ?_;refine' qz4b;have HG:=Lib.hid (HG.out.below hb);refine' qz6;clear hb PB;refine' qzg
 refine(Tryz.Builder_Grow_fresh w.heap.size g (bytesN l) w2 HS.out HG.out HB.out.size (by have:=HN.out;omega)).mono ?_
 rintro e w3 ⟨rfl,hg,hb⟩;have HW:Hid (Bld w.heap.size g (encX (l.take 0)) w3):=Lib.hid (.inr hg);have HB:=Lib.hid (HB.out.trans hb);clear hb hg HG HS;go_wp2
 go_loopw [15] (fun i wr=>∃ k:Nat,k≤l.length∧i = .int .i64 k∧Hid (Bld w.heap.size g (encX (l.take k)) wr)∧Hid (Below w.heap.size w wr)) (fun i _=>l.length - (intOf i).toNat)
 case atStart=>exact⟨0,Nat.zero_le _,rfl,HW,HB⟩
 case round=>
  obtain⟨k,hk,rfl,HD,HR⟩:=hrel;clear HW HB;by_cases hlt:k<l.length
  · obtain⟨p,rfl,hp,c0,c1⟩:=(HL.out.below HR.out) k hlt;have HT:=Lib.hid (d0q l k hlt)
    have hk2:(k:Int)≤2000:=by have:=HLn.out;omega
    have hm:=HM.out _ (List.getElem_mem hlt)
    have hlen:(encX (l.take k)).length+257≤1000000:=by
     rw[b0g];have:=f0q l k;have:=HN.out;omega
    rw[add_one]at c1;refine' qz11;generalize encX (l.take k)=bs at *;obtain⟨d,n⟩:=u;obtain⟨h0,h1,h2⟩:=hm;simp only[]at h0 h1 h2 c0 c1;have v0:=to8 n h0 h1
    have v1:=to8 (d.size:Int) (by omega) (by omega)
    have HT:Hid (encX (l.take (k+1))=bs ++ [UInt8.ofNat n.toNat] ++ [UInt8.ofNat (d.size:Int).toNat]++d.data.toList):=Lib.hid (by
     rw[HT.out,List.append_assoc,List.append_assoc]
     rfl)
    generalize UInt8.ofNat n.toNat=cn at *;generalize UInt8.ofNat (d.size:Int).toNat=cd at *;have hl1:=Lib.hid hlen;have HDo:=HD;clear hlen;have HX:=Lib.hid (Bk.Bk.new 50 wr (cellsS (d,n)));have HD:=Lib.hid (Bld.below HD.out (balloc (Below.refl _ wr) (.cells (cellsS (d,n)) 50)))
    have HG:Hid (wr.heap.size≠g):=Lib.hid (by have:=Bld.lt HDo.out;omega)
    have HR:=Lib.hid (HR.out.alloc HR.out.size (.cells (cellsS (d,n)) 50));clear HDo;refine' qzcq;change Code.wp _ _ _ _ (wr.alloc (.cells (cellsS (d,n)) 50));generalize wr.alloc (.cells (cellsS (d,n)) 50)=W at *;generalize wr.heap.size=q at *;clear c0 c1 hp;have c0:=HX.out.cell 0 (.int .i64 n) rfl;refine' qzg
    refine(Sb.r0x w.heap.size g bs cn W HD.out (by have:=hl1.out;omega) HR.out.size).mono ?_
    rintro e w4 ⟨rfl,hd,hb,ho⟩;have HD:=Lib.hid hd;have HR:=Lib.hid (HR.out.trans hb);have HX:Hid (Bk 50 _ q (cellsS (d,n))):=Lib.hid (ho q 50 _ HG.out neS HX.out);clear hd hb ho c0;have c1:=HX.out.cell 1 (.string d) rfl;refine' qzg
    refine(Sb.r0x w.heap.size g _ cd _ HD.out (by have:=hl1.out;simp;omega) HR.out.size).mono ?_
    rintro e w5 ⟨rfl,hd,hb,ho⟩;have HD:=Lib.hid hd;have HR:=Lib.hid (HR.out.trans hb);have HX:Hid (Bk 50 _ q (cellsS (d,n))):=Lib.hid (ho q 50 _ HG.out neS HX.out);clear hd hb ho c1;have c1:=HX.out.cell 1 (.string d) rfl;refine' qzg
    refine(Sb.t0f w.heap.size g _ d _ HD.out (by have:=hl1.out;simp;omega) HR.out.size).mono ?_
    rintro e w6 ⟨rfl,hd,hb,ho⟩
    have HD:Hid (Bld w.heap.size g (encX (l.take (k+1))) w6):=Lib.hid (by
     rw[HT.out]
     exact hd)
    have HR:=Lib.hid (HR.out.trans hb);clear hd hb ho c1 HX;refine' qzbf
  · refine' qz12;rw[List.take_length]at HD;refine' qzg;refine(Sb.x0b w.heap.size g _ wr HD.out HR.out.size).mono ?_;rintro e w4 ⟨rfl,hb⟩;have HR:=Lib.hid (HR.out.trans hb);clear hb HD;refine' qz2w;exact⟨t0b HP.out.symm HK.out.symm,HR.out⟩
end Xp
namespace Q2
open Ms Box Xv Q1 Am
open Oct (fitsB)
open Hs (a0b)
open Go.Proofs.YtllhobicfclheaaGreatDoor.Or (p0a)
theorem e1e (n:Int)(w:World):Calls Tryz.prog 228 #[.int .i64 n] w fun e w'=>e = .returned (.bool (decide (0≤n∧n≤31)))∧w=w':=by
 refine' qz67
 exact⟨g0a (by rw[Bool.eq_iff_iff];simp;omega),rfl⟩
theorem z0j (m:M)(w:World):Calls Tryz.prog 169 #[.agg m.cells] w fun e w'=>e = .returned (.bool (nums m))∧Below w.heap.size w w':=by
 have bel:=balloc (Below.refl _ w) (.cells m.cells 29);have b0:=Bx.new w m
 have HK:=Lib.hid (show nums m=(decide (0≤m.flags∧m.flags≤31)&&(fitsB m.hops 1&&(fitsB m.nonce 4&&(fitsB m.seq 4&&fitsB m.seq2 4))))from rfl)
 have P1:=Lib.hid (fun V=>e1e m.flags V)
 have P2:=Lib.hid (fun V=>Oct.k0b m.hops 1 V)
 have P3:=Lib.hid (fun V=>Oct.k0b m.nonce 4 V)
 have P4:=Lib.hid (fun V=>Oct.k0b m.seq 4 V)
 have P5:=Lib.hid (fun V=>Oct.k0b m.seq2 4 V)
 generalize nums m=y at *;generalize decide (0≤m.flags∧m.flags≤31)=x1 at *;generalize fitsB m.hops 1=x2 at *;generalize fitsB m.nonce 4=x3 at *;generalize fitsB m.seq 4=x4 at *;generalize fitsB m.seq2 4=x5 at *;refine' qz2f;have c12:=b0.cs.c12;have c13:=b0.cs.c13;have c15:=b0.cs.c15;have c16:=b0.cs.c16;have c17:=b0.cs.c17;clear b0;cases x1
 · refine' qz2h;refine' qz5i
 cases x2
 · refine' qz2h;refine' qz54;refine' qz5i
 cases x3
 · refine' qz2h;refine' qz54;refine' qz7u;refine' qz5i
 cases x4
 · refine' qz2h;refine' qz54;refine' qz7u;refine' qz8x;refine' qz2g;refine' qz5i
 refine' qz2h;refine' qz54;refine' qz7u;refine' qz8x;refine' qz2g;refine' qzg;refine(P5.out _).mono ?_;refine' qz2g;refine' qz5i
theorem l0a (m:M)(w:World)(hm:m.In w)(lb:∀ x∈m.sl,x.1.size≤1099511627776):Calls Tryz.prog 99 #[.agg m.cells] w fun e w'=>e = .returned (.bool (okQ m))∧Below w.heap.size w w':=by
 refine' qz40
 have HY:=Lib.hid (show okQ m=(decide (m.kind=3)&&(bare m&&(nums m&&(decide (m.addr.size=4)&&(decide (m.orig.size=4)&&okX m.sl)))))from rfl)
 have P1:=Lib.hid (fun hk V (h:m.In V)=>B3.z0c m V hk h)
 have P2:=Lib.hid (fun V=>z0j m V)
 have P3:=Lib.hid (fun V (h:m.In V)=>Xp.l0a m.sa m.sc m.sl V h.s h.sl lb)
 clear lb hm;generalize okQ m=y at *;generalize bare m=x1 at *;generalize nums m=x2 at *;generalize okX m.sl=x3 at *;refine' qz2m;refine' qz3h;refine' qz2;by_cases hk:m.kind=3;rotate_left
 · rw[decide_eq_false hk]at HY;refine' qzj;exact⟨g0a HY.out.symm,HF.out.bel⟩
 have P1:=Lib.hid (P1.out hk);rw[decide_eq_true hk]at HY;cases x1
 · refine' qzf;refine' qzbb;refine' qz3h;refine' qz4;refine' qz3j
 cases x2
 · refine' qzf;refine' qzbb;refine' qz3h;refine' qz4;refine' qzs;refine' qzbb;refine' qz3h;refine' qz4;refine' qz3j
 by_cases q1:m.addr.size=4;rotate_left
 · rw[decide_eq_false q1]at HY;refine' qzf;refine' qzbb;refine' qz3h;refine' qz4;refine' qzs;refine' qzbb;refine' qz3h;refine' qz4;refine' qz3j
 by_cases q2:m.orig.size=4;rotate_left
 · rw[decide_eq_true q1,decide_eq_false q2]at HY;refine' qzf;refine' qzbb;refine' qz3h;refine' qz4;refine' qzs;refine' qzbb;refine' qz3h;refine' qz4;refine' qz3j
 rw[decide_eq_true q1,decide_eq_true q2]at HY;refine' qzf;refine' qzbb;refine' qz3h;refine' qz4;refine' qzs;refine' qzbb;refine' qz3h;refine' qz4;refine' qzcu;refine' qzbb;refine' qz3h;refine' qz4;refine' qz3j
end Q2
namespace Q5
open Ms Box Xv
open Xp (to8 putS t0b)
open Q1 Q2 Am Hs Hy Nu
open Oct (fitsB)
open Go.Proofs.YtllhobicfclheaaGreatDoor.Or (p0a)
theorem n0d {a b:ByteArray}(h:a=b):Ending.returned (.string a) = .returned (.string b):=by rw[h]
theorem g0f (c d:UInt8)(w:World):(convert 96 9 (.slice (some ⟨w.heap.size,0,none⟩) 4 4)).run Tryz.prog (w.alloc (.cells #[.int .u8 1,.int .u8 (c.toNat:Int),.int .u8 0,.int .u8 (d.toNat:Int)] 5)) = .ok (.string ⟨#[1,c,0,d]⟩) (w.alloc (.cells #[.int .u8 1,.int .u8 (c.toNat:Int),.int .u8 0,.int .u8 (d.toNat:Int)] 5)):=by
 refine run_convert_bytes_back _ 96 9 5 ⟨w.heap.size,0,none⟩ 4 [1,c,0,d] Tryz.underlying96 Tryz.underlying5 Tryz.underlying9 fun j hj=>?_
 have hB:=Bk.Bk.new 5 w #[.int .u8 1,.int .u8 (c.toNat:Int),.int .u8 0,.int .u8 (d.toNat:Int)];refine' qz6p
theorem t0p (m:M):(⟨#[1,UInt8.ofNat (8*m.flags.toNat),0,UInt8.ofNat m.hops.toNat]⟩:ByteArray)++⟨(layN m.nonce 4).toArray⟩++m.addr++⟨(layN m.seq 4).toArray⟩++m.orig++⟨(layN m.seq2 4).toArray⟩=⟨(hd m).toArray⟩:=by
 refine k0a ?_;simp[hd,ByteArray.data_append]
theorem z0i {n:Int}(h:0≤n):UInt8.ofNat (n*8).toNat=UInt8.ofNat (8*n.toNat):=by
 have:(n*8).toNat=8*n.toNat:=by omega
 rw[this]
theorem p0e (v:Int)(k:Nat):(⟨(layN v k).toArray⟩:ByteArray).size≤k:=by show(layN v k).toArray.size≤k;simpa using i0a v k
theorem s1d (m:M)(w:World)(hm:m.In w)(hn:nums m=true)(ha:m.addr.size=4)(ho:m.orig.size=4) :
    Calls Tryz.prog 238 #[.agg m.cells] w fun e w'=>e = .returned (.string ⟨(hd m).toArray⟩)∧Below w.heap.size w w':=by
 obtain⟨f0,f1,n1,-,-,-⟩:=(a0d m).1 hn;obtain⟨h0,h1⟩:=s0j n1
 have v1:=to8 (m.flags*8) (by omega) (by omega)
 have v2:=to8 m.hops h0 (by omega)
 rw[z0i f0]at v1;refine' qz40;have HY:=Lib.hid (t0p m)
 have P1:=Lib.hid (fun V=>s0c m.nonce 4 4 rfl (by omega) (by omega) V)
 have P2:=Lib.hid (fun V=>s0c m.seq 4 4 rfl (by omega) (by omega) V)
 have P3:=Lib.hid (fun V=>s0c m.seq2 4 4 rfl (by omega) (by omega) V)
 have z1:=p0e m.nonce 4;have z2:=p0e m.seq 4;have z3:=p0e m.seq2 4;generalize (⟨(layN m.nonce 4).toArray⟩:ByteArray)=t1 at *;generalize (⟨(layN m.seq 4).toArray⟩:ByteArray)=t2 at *;generalize (⟨(layN m.seq2 4).toArray⟩:ByteArray)=t3 at *;generalize fitsB m.nonce 4=x1 at *;generalize fitsB m.seq 4=x2 at *;generalize fitsB m.seq2 4=x3 at *;generalize UInt8.ofNat (8*m.flags.toNat)=cf at *;generalize UInt8.ofNat m.hops.toNat=ch at *;generalize (⟨(hd m).toArray⟩:ByteArray)=R at *;clear hn n1 hm;refine' qz2f;have c15:=HF.out.m.cs.c15;have c16:=HF.out.m.cs.c16;have cv:=g0f cf ch V;refine' qzb7;have HF:=Lib.hid (HF.out.call (balloc (Below.refl _ V) (.cells #[.int .u8 1,.int .u8 (cf.toNat:Int),.int .u8 0,.int .u8 (ch.toNat:Int)] 5)));clear cv c15 c16 v1 v2 h0 h1 f0 f1;change Code.wp _ _ _ _ (V.alloc (.cells #[.int .u8 1,.int .u8 (cf.toNat:Int),.int .u8 0,.int .u8 (ch.toNat:Int)] 5));generalize V.alloc (.cells #[.int .u8 1,.int .u8 (cf.toNat:Int),.int .u8 0,.int .u8 (ch.toNat:Int)] 5)=V1 at *;have z0:(⟨#[1,cf,0,ch]⟩:ByteArray).size=4:=rfl;generalize (⟨#[1,cf,0,ch]⟩:ByteArray)=t0 at *;have c:=HF.out.m.cs.c17;refine' qzh;rintro e W1 ⟨rfl,hb⟩;refine' qzq;clear hb c P1;have c:=HF.out.m.cs.c12;refine' qzt;rintro e W2 ⟨rfl,hb⟩;refine' qzq;clear hb c P2;have c:=HF.out.m.cs.c13;refine' qz25;rintro e W3 ⟨rfl,hb⟩;refine' qzq;clear hb c P3;refine' qz3h;refine' qzj;exact⟨n0d HY.out,HF.out.bel⟩
theorem c0b (m:M)(w:World)(hm:m.In w)(ln:m.sl.length≤2000)(lb:∀ x∈m.sl,x.1.size≤1099511627776) :
    Calls Tryz.prog 176 #[.agg m.cells] w fun e w'=>e = .returned (.tuple #[.string (putQ m),.bool (okQ m)])∧Below w.heap.size w w':=by
 refine' qz40;refine' qz8h;by_cases hok:okQ m=true;rotate_left
 · have hok:okQ m=false:=by simpa using hok
   have HP:=Lib.hid (y1n hok);have HK:=Lib.hid hok;rw[hok]at P1;clear hok lb P2 hm;refine' qz2f;refine' qz39;refine' qz77;clear hb;refine' qz2w;exact⟨t0b HP.out.symm HK.out.symm,HF.out.bel⟩
 obtain⟨_,_,hn,ha,ho,hx⟩:=(x0a m).1 hok
 have P3:=Lib.hid (fun V (h:m.In V)=>s1d m V h hn ha ho)
 have HP:=Lib.hid (g0i hok);have HK:=Lib.hid hok
 have HE:Hid ((⟨(hd m).toArray⟩:ByteArray)++putS m.sl=⟨(encQ m).toArray⟩):=Lib.hid (by
  rw[Xp.q0d hx];refine k0a ?_
  simp[encQ,ByteArray.data_append])
 have z1:(⟨(hd m).toArray⟩:ByteArray).size≤1000:=by
  obtain⟨f0,f1,n1,n2,n3,n4⟩:=(a0d m).1 hn
  show(hd m).length≤_
  unfold hd;simp only[List.length_append,List.length_cons,s0a n2,s0a n3,s0a n4,c0a,ha,ho];omega
 have z2:(putS m.sl).size≤514000:=by
  rw[Xp.q0d hx]
  show(encX m.sl).length≤_
  rw[b0g];have:=z0g hx;omega
 rw[hok]at P1;rw[hx]at P2;generalize (⟨(hd m).toArray⟩:ByteArray)=t1 at *;generalize putS m.sl=t2 at *;clear hok lb hn ha ho hx hm;refine' qz2f;refine' qz39;refine' qz77;clear hb P1;refine' qz2;refine' qzg;refine' qzcz;rintro e V2 ⟨rfl,hb⟩;refine' qzq;clear hb P2 c24;refine' qz1p;refine' qzcu;rintro e V3 ⟨rfl,hb⟩;refine' qzq;clear hb P3;refine' qz2w;exact⟨t0b (HE.out.trans HP.out.symm) HK.out.symm,HF.out.bel⟩
end Q5
namespace Q6
open Ms Box Xv Q1 Am Hs
open Go.Proofs.YtllhobicfclheaaGreatDoor.Or (p0a)
open Own (k3)
theorem k0k {n m:M}(h:Pl n m):okQ n=okQ m:=by
 rw[show n=_ from h]
 rfl
theorem q0p {n m:M}(h:Pl n m):putQ n=putQ m:=by
 rw[show n=_ from h]
 rfl
theorem s0r {s:ByteArray}(k:¬s.size<24):(outX (s.extract 24 s.size)).1.length≤s.size:=by
 have:=k0g (s.extract 24 s.size)
 have h2:(s.extract 24 s.size).size≤s.size:=by simp
 omega
theorem p0i (s:ByteArray):(outQ s).1.ll = []∧(outQ s).1.sl.length≤s.size:=by
 by_cases h:s.size<24
 · rw[x0e h];exact⟨rfl,Nat.zero_le _⟩
 by_cases k:bt s 1%8≠0∨bt s 2≠0
 · rw[t0r h k];exact⟨rfl,Nat.zero_le _⟩
 have hl:=s0r h;obtain⟨⟨l,i,x⟩,hX⟩:∃ p,outX (s.extract 24 s.size)=p:=⟨_,rfl⟩;rw[hX]at hl;by_cases hx:x=0
 · subst hx;rw[Q1.u0a h k hX];exact⟨rfl,hl⟩
 · rw[r0f h k hX hx];exact⟨rfl,Nat.zero_le _⟩
theorem q0f {m:M}(h:okQ m=true):outQ (putQ m)=({ k3 m with kind:=3,sa:=none,sc:=0},0,0)∧M.same m { k3 m with kind:=3,sa:=none,sc:=0}=true:=by
 rw[g0i h];refine⟨k0c m h,?_⟩;obtain⟨hk,hb,_⟩:=(x0a m).1 h;rw[←hk];exact hb
theorem i0l {s:ByteArray}(h:(outQ s).2.2=0)(h0:bt s 0=1):okQ (outQ s).1=true∧putQ (outQ s).1=s∧(outQ s).2.1=0:=by
 rcases Q1.out_cases s with⟨h1,_⟩|⟨h1,_,h2⟩
 · exact absurd h h1
 · obtain⟨h3,h4⟩:=h2 h0;refine⟨h3,?_,h1⟩;rw[g0i h3]
   exact Nu.k0a (by rw[←h4])
end Q6
end Go.Proofs.YtllhobicfclheaaGreatDoor
