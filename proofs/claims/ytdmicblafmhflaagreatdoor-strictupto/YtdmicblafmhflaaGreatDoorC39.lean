/- Least's arguments, read: rules, and a script's steps. -/
import Derived.Test.YtdmicblafmhflaaGreatDoorC38
import Derived.ChangeSame
import Derived.ChangeSlices
import Derived.Deep.Strs
import Derived.Deep.Slices
import Derived.Deep.Matrix
import Derived.Test.YtdmicblafmhflaaGreatDoorC36
import Derived.Test.YtdmicblafmhflaaGreatDoorC18
import Derived.Test.YtdmicblafmhflaaGreatDoorC13
import Derived.Test.YtdmicblafmhflaaGreatDoorC37
import Derived.Lib.SliceRun
import Derived.OwnWalk
import Derived.Deep.RegionHeld3
import Derived.Shelf.SlLaysNS
import Derived.Shelf.SlicesG.CompactS
import Derived.Shelf.Spec.SearchS
import Derived.Shelf.SortG.Plain
import Derived.Shelf.SortG.SortNone
set_option linter.unusedSimpArgs false
set_option linter.unusedVariables false
set_option maxHeartbeats 4000000
set_option maxRecDepth 100000
namespace Go.Proofs.YtdmicblafmhflaaGreatDoor
section
open Go.ChangeShapes Go.WideShapes Go.RowKit Go.Deep
theorem Tryz.Df:Tryz.prog.cellsOf 3=1:=by kernel_rfl
theorem Tryz.qx:Tryz.prog.cellsOf 91=3:=by kernel_rfl
theorem Tryz.wI:Tryz.prog.cellsOf 94=4:=by kernel_rfl
theorem Tryz.DC:Tryz.prog.cellsOf 92=1:=by kernel_rfl
theorem Tryz.xP:Tryz.prog.cellsOf 33=2:=by kernel_rfl
theorem Tryz.JE:Tryz.prog.cellsOf 31=1:=by kernel_rfl
theorem JI{n:Int}(h:(Lit.int .i64 n).wf=true):b8 n:=by
 simp[Lit.wf,IntKind.min,IntKind.max,IntKind.signed,IntKind.bits]at h
 unfold b8
 omega
theorem Yr{α:Type}{l:List α}(h:l.length=3):∃a b c,l=[a,b,c]:=by
 match l,h with
 | [a,b,c],_=>exact⟨a,b,c,rfl⟩
theorem Xs{α:Type}{l:List α}(h:l.length=4):∃a b c d,l=[a,b,c,d]:=by
 match l,h with
 | [a,b,c,d],_=>exact⟨a,b,c,d,rfl⟩
section
variable {H : Type} {enc : TypeId × Value → H} {W : World} {held : Bool}
theorem vM{α:Type}(d:α){t e:TypeId}{sz:Nat}{fuel:Nat}{cs:List Value}{x:DataW H×List MemPlace}(ht:Tryz.prog.underlying t=some (.slice e))(hce:Tryz.prog.cellsOf e=sz)(Fx:0<sz)
 (h:DataW.trod enc Tryz.prog W 0 (fun _=>true) held fuel t cs=some x)(Q:List Value→α→Prop)(hQ:∀n C8 y,DataW.trod enc Tryz.prog W 0 (fun _=>true) held n e C8=some y→∃a,Q C8 a):
 ∃ad len cap,∃l:List α,cs=[.slice ad len cap]∧l.length=len∧len≤cap∧cap≤maxLen∧(ad=none→len=0)∧
  ∀k (hk:k<l.length),∃g o,ad=some ⟨g,o,none⟩∧∃C8,C8.length=sz∧(∀j,j<sz→W.cell? ⟨g,o+k*sz+j,none⟩=C8[j]?)∧Q C8 l[k]:=by
 rcases open_slice ht h with⟨rfl,_⟩ | ⟨a,len,cap,m,n,D,Pl,rfl,_,hl,hm,WQ,_,ju⟩
 · exact⟨none,0,0,[],rfl,rfl,Nat.le_refl _,Nat.zero_le _,fun _=>rfl,fun k hk=>absurd hk (Nat.not_lt_zero _)⟩
 · simp only[if_true]at WQ
   subst WQ
   rw[hce]at ju
   have ais:Inhabited α:=⟨d⟩
   obtain⟨f,hf⟩:=choose_lt (α:=α) (n:=len) (p:=fun i y=>∃C8,W.cells? 0 (a.add (i*sz)) sz=some C8∧Q C8 y) (fun i hi=>by
    obtain⟨C8,h1,h2⟩:=ju i (by omega)
    obtain⟨y,hy⟩:=hQ _ _ _ h2
    exact⟨y,C8,h1,hy⟩)
   refine⟨some a,len,m,(List.range len).map f,rfl,by simp,hl,hm,(fun e=>by cases e), ?_⟩
   intro k hk
   have BZ:k<len:=by simpa using hk
   obtain⟨g,o,sp⟩:=a
   have Tr:sp=none:=by
    obtain⟨C8,h1,_⟩:=hf 0 (by omega)
    obtain⟨_,hlen,hc⟩:=World.cells?_some h1
    have:=hc 0 Fx
    rw[List.getElem?_eq_getElem (by omega)]at this
    simpa [Addr.add]using World.cell?_spot this
   subst Tr
   refine⟨g,o,rfl, ?_⟩
   obtain⟨C8,h1,h2⟩:=hf k BZ
   obtain⟨_,hlen,hc⟩:=World.cells?_some h1
   refine⟨C8,hlen,fun j hj=> ?_,by simpa using h2⟩
   rw[←hc j hj,Addr.add_lit,Addr.add_lit]
theorem CO{n:Nat}{cs:List Value}{y:DataW H×List MemPlace}(h:DataW.trod enc Tryz.prog W 0 (fun _=>true) held n 3 cs=some y):∃z:Int,cs=[.int .i64 z]∧b8 z:=by
 obtain⟨z,e,_,hw⟩:=DataW.trod_int Tryz.underlying3 h
 exact⟨z,e,JI hw⟩
theorem Iw{n:Nat}{cs:List Value}{y:DataW H×List MemPlace}(h:DataW.trod enc Tryz.prog W 0 (fun _=>true) held n 91 cs=some y):
 ∃a:Ax.dW,cs=[.int .i64 a.pred,.int .i64 a.a,.int .i64 a.b]∧b8 a.pred∧b8 a.a∧b8 a.b:=by
 obtain⟨y0,y1,y2,m,_,hl,t0,t1,t2⟩:=trod_struct3 Tryz.underlying91 h
 rw[Tryz.qx]at hl
 obtain⟨c0,c1,c2,rfl⟩:=Yr hl
 rw[Tryz.Df]at t0 t1 t2
 obtain⟨z0,e0,f0⟩:=CO t0
 obtain⟨z1,e1,f1⟩:=CO t1
 obtain⟨z2,e2,f2⟩:=CO t2
 clear t0 t1 t2 h hl
 have k0:c0=.int .i64 z0:=by simpa using e0
 have k1:c1=.int .i64 z1:=by simpa using e1
 have k2:c2=.int .i64 z2:=by simpa using e2
 clear e0 e1 e2
 subst k0 k1 k2
 exact⟨⟨z0,z1,z2⟩,rfl,f0,f1,f2⟩
theorem KO{g o:Nat}{cs:List Value}{a:Ax.dW}(hc:∀j,j<3→W.cell? ⟨g,o+j,none⟩=cs[j]?)(h:cs=[.int .i64 a.pred,.int .i64 a.a,.int .i64 a.b])(f0:b8 a.pred)(f1:b8 a.a)(f2:b8 a.b):tD W g o a:=by
 subst h
 exact⟨hc 0 (by decide),hc 1 (by decide),hc 2 (by decide),f0,f1,f2⟩
theorem RB{n:Nat}{cs:List Value}{y:DataW H×List MemPlace}(h:DataW.trod enc Tryz.prog W 0 (fun _=>true) held n 92 cs=some y):∃ad len cap,∃l:List Ax.dW,cs=[.slice ad len cap]∧iB W ad len cap l:=by
 obtain⟨ad,len,cap,l,e,h1,h2,h3,h4,h5⟩:=vM (⟨0,0,0⟩:Ax.dW) Tryz.underlying92 Tryz.qx (by decide) h (fun cs a=>cs=[.int .i64 a.pred,.int .i64 a.a,.int .i64 a.b]∧b8 a.pred∧b8 a.a∧b8 a.b) (fun _ _ _ hy=>Iw hy)
 refine⟨ad,len,cap,l,e,h1,h2,h3,h4,fun k hk=> ?_⟩
 obtain⟨g,o,ea,C8,_,hc,q1,q2,q3,q4⟩:=h5 k hk
 exact⟨g,o,ea,KO hc q1 q2 q3 q4⟩
theorem ints_at{n:Nat}{cs:List Value}{y:DataW H×List MemPlace}(h:DataW.trod enc Tryz.prog W 0 (fun _=>true) held n 31 cs=some y):∃ad len cap,∃l:List Int,cs=[.slice ad len cap]∧fF W ad len cap l:=by
 obtain⟨ad,len,cap,l,e,h1,h2,h3,_,h5⟩:=vM (0:Int) Tryz.underlying31 Tryz.Df (by decide) h (fun cs z=>cs=[.int .i64 z]∧b8 z) (fun _ _ _ hy=>CO hy)
 refine⟨ad,len,cap,l,e,h1,h2,h3,fun k hk=> ?_⟩
 obtain⟨g,o,ea,C8,_,hc,q1,q2⟩:=h5 k hk
 refine⟨g,o,ea, ?_,q2⟩
 have:=hc 0 (by decide)
 rw[q1]at this
 simpa using this
theorem Qa{n:Nat}{cs:List Value}{y:DataW H×List MemPlace}(h:DataW.trod enc Tryz.prog W 0 (fun _=>true) held n 94 cs=some y):
 ∃r:Ax.aM,∃bd bn bc,cs=[.int .i64 r.head.pred,.int .i64 r.head.a,.int .i64 r.head.b,.slice bd bn bc]∧(b8 r.head.pred∧b8 r.head.a∧b8 r.head.b)∧iB W bd bn bc r.body:=by
 obtain⟨y0,y1,m,_,hl,t0,t1⟩:=trod_struct2 Tryz.underlying94 h
 rw[Tryz.wI]at hl
 obtain⟨c0,c1,c2,c3,rfl⟩:=Xs hl
 rw[Tryz.qx]at t0
 rw[Tryz.DC]at t1
 obtain⟨a,ea,fa⟩:=Iw t0
 obtain⟨bd,bn,bc,l,el,hB⟩:=RB t1
 clear t0 t1 h hl
 have ka:c0=.int .i64 a.pred∧c1=.int .i64 a.a∧c2=.int .i64 a.b:=by simpa using ea
 have kl:c3=.slice bd bn bc:=by simpa using el
 clear ea el
 obtain⟨rfl,rfl,rfl⟩:=ka
 subst kl
 exact⟨⟨a,l⟩,bd,bn,bc,rfl,fa,hB⟩
theorem L4{n:Nat}{cs:List Value}{y:DataW H×List MemPlace}(h:DataW.trod enc Tryz.prog W 0 (fun _=>true) held n 25 cs=some y):∃ad len cap,∃l:List Ax.aM,cs=[.slice ad len cap]∧rZ W ad len cap l:=by
 obtain⟨ad,len,cap,l,e,h1,h2,h3,_,h5⟩:=vM (⟨⟨0,0,0⟩,[]⟩:Ax.aM) Tryz.underlying25 Tryz.wI (by decide) h (fun cs r=>∃bd bn bc,cs=[.int .i64 r.head.pred,.int .i64 r.head.a,.int .i64 r.head.b,.slice bd bn bc]∧(b8 r.head.pred∧b8 r.head.a∧b8 r.head.b)∧iB W bd bn bc r.body) (fun _ _ _ hy=>Qa hy)
 refine⟨ad,len,cap,l,e,h1,h2,h3,fun k hk=> ?_⟩
 obtain⟨g,o,ea,C8,_,hc,bd,bn,bc,q1,⟨q2,q3,q4⟩,q5⟩:=h5 k hk
 subst q1
 exact⟨g,o,ea,⟨hc 0 (by decide),hc 1 (by decide),hc 2 (by decide),q2,q3,q4⟩,bd,bn,bc,hc 3 (by decide),q5⟩
theorem YO{α:Type}{l:List α}(h:l.length=2):∃a b,l=[a,b]:=by
 match l,h with
 | [a,b],_=>exact⟨a,b,rfl⟩
theorem Sh{n:Nat}{cs:List Value}{y:DataW H×List MemPlace}(h:DataW.trod enc Tryz.prog W 0 (fun _=>true) held n 33 cs=some y):
 ∃x:List Int×List Int,∃a1 n1 c1 a2 n2 c2,cs=[.slice a1 n1 c1,.slice a2 n2 c2]∧fF W a1 n1 c1 x.1∧fF W a2 n2 c2 x.2:=by
 obtain⟨y0,y1,m,_,hl,t0,t1⟩:=trod_struct2 Tryz.underlying33 h
 rw[Tryz.xP]at hl
 obtain⟨c0,c1,rfl⟩:=YO hl
 rw[Tryz.JE]at t0 t1
 obtain⟨a1,n1,k1,l1,e1,i1⟩:=ints_at t0
 obtain⟨a2,n2,k2,l2,e2,i2⟩:=ints_at t1
 clear t0 t1 h hl
 have ka:c0=.slice a1 n1 k1:=by simpa using e1
 have kb:c1=.slice a2 n2 k2:=by simpa using e2
 subst ka kb
 exact⟨(l1,l2),a1,n1,k1,a2,n2,k2,rfl,i1,i2⟩
theorem OM{n:Nat}{cs:List Value}{y:DataW H×List MemPlace}(h:DataW.trod enc Tryz.prog W 0 (fun _=>true) held n 26 cs=some y):∃ad len cap,∃l:List (List Int×List Int),cs=[.slice ad len cap]∧F8 W ad len cap l:=by
 obtain⟨ad,len,cap,l,e,h1,h2,h3,_,h5⟩:=vM (([],[]):List Int×List Int) Tryz.underlying26 Tryz.xP (by decide) h (fun cs x=>∃a1 n1 c1 a2 n2 c2,cs=[.slice a1 n1 c1,.slice a2 n2 c2]∧fF W a1 n1 c1 x.1∧fF W a2 n2 c2 x.2) (fun _ _ _ hy=>Sh hy)
 refine⟨ad,len,cap,l,e,h1,h2,h3,fun k hk=> ?_⟩
 obtain⟨g,o,ea,C8,_,hc,a1,n1,c1,a2,n2,c2,q1,i1,i2⟩:=h5 k hk
 subst q1
 exact⟨g,o,ea,a1,n1,c1,a2,n2,c2,hc 0 (by decide),hc 1 (by decide),i1,i2⟩
theorem Gl{n:Nat}{t e:TypeId}{ad:Option Addr}{len cap:Nat}{y:DataW H×List MemPlace}(ht:Tryz.prog.underlying t=some (.slice e))(h:DataW.trod enc Tryz.prog W 0 (fun _=>true) held n t [.slice ad len cap]=some y):len=0∨∃es sp,y.1=.slice es sp∧es.length=len:=by
 rcases DataW.trod_slice ht h with⟨h1,_⟩ | ⟨a,l',c',el,rs,m,_,h1,hx,_,_,_,hel,_⟩
 · left
   simp at h1
   exact h1.2.1
 · right
   simp at h1
   refine⟨el.map (·.1),rs.map (·.1),by rw[hx], ?_⟩
   rw[List.length_map,hel]
   exact h1.2.1.symm
end
end
/- Engine.All; what of an engine's predicate is listed. -/
section
open Go.RowKit Go.Maps Go.WideMaps Go.WideElems
def A8(H:Nat→Bool)(p:ByteArray):List Nat:=(List.range 36).filter fun i=>H i&&decide ((cP i).1=p)
theorem tW{j:Nat}(hj:j<36):(Tb.dh (cP j).2).take (cP j).2.length=(cP j).2:=by
 have key:∀p x y,(Tb.dh (pO p x y).2).take (pO p x y).2.length=(pO p x y).2:=by
  intro p x y
  unfold pO
  split<;>rfl
 unfold cP
 split
 · exact key _ _ _
 · split<;>exact key _ _ _
end
/- What an engine's predicate lists, as a list that the rules and the given facts settle. -/
section
theorem Mx{α:Type}{R:α→α→Prop}(asy:∀a b,R a b→¬R b a):∀(l1 l2:List α),l1.Pairwise R→l2.Pairwise R→(∀x,x∈l1↔x∈l2)→l1=l2
 | [],[],_,_,_=>rfl
 | [],b::l2,_,_,h=>absurd ((h b).2 (by simp)) (by simp)
 | a::l1,[],_,_,h=>absurd ((h a).1 (by simp)) (by simp)
 | a::l1,b::l2,h1,h2,h=>by
  rw[List.pairwise_cons]at h1 h2
  have e:a=b:=by
   rcases List.mem_cons.1 ((h a).1 (by simp))with e | ha
   · exact e
   · rcases List.mem_cons.1 ((h b).2 (by simp))with e | hb
     · exact e.symm
     · exact absurd (h2.1 a ha) (asy _ _ (h1.1 b hb))
  subst e
  have hi:∀x,R a x→x≠a:=fun x hx e=>by
   subst e
   exact asy _ _ hx hx
  rw[Mx asy l1 l2 h1.2 h2.2 (fun x=>⟨fun hx=> ?_,fun hx=> ?_⟩)]
  · rcases List.mem_cons.1 ((h x).1 (by simp[hx]))with e | h9
    · exact absurd e (hi x (h1.1 x hx))
    · exact h9
  · rcases List.mem_cons.1 ((h x).2 (by simp[hx]))with e | h9
    · exact absurd e (hi x (h2.1 x hx))
    · exact h9
end
/- axiomkeep.run: an engine behind a script. -/
section
open Go.RowKit Go.Maps
theorem Rl(K:Nat→Int)(w:World)(ad:Option Addr)(m c:Nat)(kl:List Ax.aM)(hR:rZ w ad m c kl)(sd:Option Addr)(sn sc:Nat)(sl:List (List Int×List Int))(hS:F8 w sd sn sc sl)(hs:sl.length≤2000000)(hK:Dg.C4 w K)(hU:fw w):
 Calls Tryz.prog 22 #[.slice ad m c,.slice sd sn sc] w fun e w'=>∃sb eg,e=.returned (.pointer (some ⟨sb,0,none⟩))∧vV w.heap.size w' sb eg (.slice ad (min m 6) c) kl (jC sl) (jC sl) sl.length∧Below w.heap.size w w':=by
 have Dc:=hS.len
 subst Dc
 have na:=hS.cap
 have hmx:sc≤9223372036854775807:=hS.max
 have HSH:Hid (Calls Tryz.prog 13 #[.slice ad m c] w fun e w'=>∃sb eg,e=.returned (.pointer (some ⟨sb,0,none⟩))∧Hid (vV w.heap.size w' sb eg (.slice ad (min m 6) c) kl (jC (sl.take 0)) (jC (sl.take 0)) 0∧Below w.heap.size w w')):=(Np K w ad m c kl hR hK).mono (fun e w' ⟨sb,eg,a,b⟩=>⟨sb,eg,a,b⟩)
 have Q1:Hid (∀W sb eg gv n k (hk:k<sl.length) g o,n≤2000000→sd=some ⟨g,o,none⟩→vV w.heap.size W sb eg (.slice ad (min m 6) c) kl gv gv n→Below w.heap.size w W→∃a1 n1 c1 a2 n2 c2,W.cell? ⟨g,o+k*2,none⟩=some (.slice a1 n1 c1)∧W.cell? ⟨g,o+k*2+1,none⟩=some (.slice a2 n2 c2)∧Calls Tryz.prog 15 #[.pointer (some ⟨sb,0,none⟩),.agg #[.slice a1 n1 c1,.slice a2 n2 c2]] W fun e w'=>e=.returned (.bool true)∧vV w.heap.size w' sb eg (.slice ad (min m 6) c) kl (oO gv sl[k]) (oO gv sl[k]) (n+1)∧Below w.heap.size w w'):=by
  intro W sb eg gv n k hk g o hn Ks hW hb
  obtain⟨g',o',e,a1,n1,c1,a2,n2,c2,q1,q2,i1,i2⟩:=hS.at_ k hk
  rw[Ks]at e
  simp only[Option.some.injEq,Addr.mk.injEq,and_true]at e
  obtain⟨rfl,rfl⟩:=e
  have zx:∀W',Below w.heap.size W W'→Below w.heap.size w W':=fun W' h=>hb.trans h
  refine⟨a1,n1,c1,a2,n2,c2,bS hb q1,bS hb q2, ?_⟩
  refine(G9 K w.heap.size W sb eg _ kl gv n hW hn (fun W' h=>⟨hK.below (zx W' h),Utf8Tabs_below hU (zx W' h)⟩) a1 n1 c1 _ (fun W' h _=>i1.below (zx W' h)) (fun g o e hl=>by have:=i1.lt g o e hl;have:=hW.le;omega) a2 n2 c2 _ (fun W' h _=>i2.below (zx W' h)) (fun g o e hl=>by have:=i2.lt g o e hl;have:=hW.le;omega)).mono ?_
  rintro e w' ⟨rfl,r1,r2,_⟩
  exact⟨rfl,r1,hb.trans r2⟩
 have HSD:Hid (∀k,k<sl.length→∃g o,sd=some ⟨g,o,none⟩):=fun k hk=>by
  obtain⟨g,o,e,_⟩:=hS.at_ k hk
  exact⟨g,o,e⟩
 clear hR hS hK hU
 go_enter Tryz.func22,Tryz.ntmps22
 go_wp2_with (go_at_call 13;refine HSH.out.mono ?_;rintro e w1 ⟨sb,eg,rfl,Su⟩)
 clear HSH
 go_loopw [6] (fun i wr=>∃(k:Nat),k≤sl.length∧i=.int .i64 k∧vV w.heap.size wr sb eg (.slice ad (min m 6) c) kl (jC (sl.take k)) (jC (sl.take k)) k∧Below w.heap.size w wr) (fun i _=>sl.length-(intOf i).toNat)
 case atStart=>exact⟨0,Nat.zero_le _,rfl,Su.out.1,Su.out.2⟩
 case round=>
  obtain⟨k,hk,rfl,hW,hb⟩:=hrel
  clear Su
  by_cases aC:k<sl.length
  · have Vq:decide ((k:Int)<(sl.length:Int))=true:=decide_eq_true (by omega)
    obtain⟨g,o,Tl⟩:=HSD.out k aC
    obtain⟨a1,n1,c1,a2,n2,c2,q1,q2,Ff⟩:=Q1.out wr sb eg _ k k aC g o (by omega) Tl hW hb
    have gG:Hid (jC (sl.take (k+1))=oO (jC (sl.take k)) sl[k]):=by
     have e0:sl.take (k+1)=sl.take k++[sl[k]]:=by rw[List.take_add_one,List.getElem?_eq_getElem aC];rfl
     have e1:jC (sl.take (k+1))=oO (jC (sl.take k)) sl[k]:=by rw[e0,Hl]
     exact e1
    rw[←gG.out]at Ff
    have HAK:Hid _:=Ff
    subst Tl
    clear Ff hW hb Q1
    go_wp2_with (go_at_call 15;refine(show Calls Tryz.prog 15 _ _ _ from HAK.out).mono ?_;rintro e w5 ⟨rfl,hS5,hB5⟩)
    go_roundw
    case rel=>exact⟨k+1,aC,by go_num,hS5,hB5⟩
    case measure=>simp[intOf];omega
  · have Vq:decide ((k:Int)<(sl.length:Int))=false:=decide_eq_false (by omega)
    have e9:k=sl.length:=by omega
    have HW:Hid (vV w.heap.size wr sb eg (.slice ad (min m 6) c) kl (jC sl) (jC sl) sl.length∧Below w.heap.size w wr):=by
     rw[e9,List.take_length]at hW
     exact⟨hW,hb⟩
    clear hW hb Q1 HSD e9
    go_wp2_with fail
    all_goals
     (go_ret
      exact⟨sb,eg,rfl,HW.out⟩)
end
/- slices.Sort, slices.Compact, slices.BinarySearch at strings, as the shelf lays them. -/
section
open Go.Shelf Go.RowKit
def NB:Ren:=⟨fun | 54=>134 | 61=>202 | 64=>191 | 65=>201 | 69=>256 | 78=>241 | 79=>242 | 89=>268 | 90=>269 | 80=>248 | 81=>249 | 82=>250 | 83=>251 | 84=>252 | 85=>253 | 86=>254 | 87=>255 | 93=>274 | 94=>275 | 95=>276 | 97=>290 | n=>n,fun | 0=>0 | 3=>3 | 4=>4 | 5=>5 | 9=>9 | 25=>46 | 26=>9 | 44=>129 | 51=>246 | 60=>372 | 61=>373 | 67=>228 | 69=>285 | 75=>396 | 79=>400 | 83=>422 | 84=>288 | n=>n,fun n=>n⟩
theorem Br:SlLaysN.n54 Tryz.prog NB where
 mixed:=by kernel_rfl
 f54:=⟨(Tryz.f134).name,by kernel_rfl,Tryz.func134.trans (congrArg some (by kernel_rfl))⟩
 f61:=⟨(Tryz.f202).name,by kernel_rfl,Tryz.func202.trans (congrArg some (by kernel_rfl))⟩
 f64:=Tryz.func191.trans (congrArg some (by kernel_rfl))
 f65:=⟨(Tryz.f201).name,by kernel_rfl,Tryz.func201.trans (congrArg some (by kernel_rfl))⟩
 f69:=⟨(Tryz.f256).name,by kernel_rfl,Tryz.func256.trans (congrArg some (by kernel_rfl))⟩
 f78:=Tryz.func241.trans (congrArg some (by kernel_rfl))
 f79:=Tryz.func242.trans (congrArg some (by kernel_rfl))
 f80:=⟨(Tryz.f248).name,by kernel_rfl,Tryz.func248.trans (congrArg some (by kernel_rfl))⟩
 f81:=⟨(Tryz.f249).name,by kernel_rfl,Tryz.func249.trans (congrArg some (by kernel_rfl))⟩
 f82:=⟨(Tryz.f250).name,by kernel_rfl,Tryz.func250.trans (congrArg some (by kernel_rfl))⟩
 f83:=⟨(Tryz.f251).name,by kernel_rfl,Tryz.func251.trans (congrArg some (by kernel_rfl))⟩
 f84:=⟨(Tryz.f252).name,by kernel_rfl,Tryz.func252.trans (congrArg some (by kernel_rfl))⟩
 f85:=⟨(Tryz.f253).name,by kernel_rfl,Tryz.func253.trans (congrArg some (by kernel_rfl))⟩
 f86:=⟨(Tryz.f254).name,by kernel_rfl,Tryz.func254.trans (congrArg some (by kernel_rfl))⟩
 f87:=⟨(Tryz.f255).name,by kernel_rfl,Tryz.func255.trans (congrArg some (by kernel_rfl))⟩
 f89:=Tryz.func268.trans (congrArg some (by kernel_rfl))
 f90:=Tryz.func269.trans (congrArg some (by kernel_rfl))
 f93:=⟨(Tryz.f274).name,by kernel_rfl,Tryz.func274.trans (congrArg some (by kernel_rfl))⟩
 f94:=⟨(Tryz.f275).name,by kernel_rfl,Tryz.func275.trans (congrArg some (by kernel_rfl))⟩
 f95:=⟨(Tryz.f276).name,by kernel_rfl,Tryz.func276.trans (congrArg some (by kernel_rfl))⟩
 f97:=⟨(Tryz.f290).name,by kernel_rfl,Tryz.func290.trans (congrArg some (by kernel_rfl))⟩
 t0:=Tryz.underlying0
 a0:=Tryz.isAgg0
 z0:=Tryz.sizeOf0
 v0:=Tryz.zeroValue0
 t3:=Tryz.underlying3
 a3:=Tryz.isAgg3
 z3:=Tryz.sizeOf3
 v3:=Tryz.zeroValue3
 t4:=Tryz.underlying4
 a4:=Tryz.isAgg4
 z4:=Tryz.sizeOf4
 v4:=Tryz.zeroValue4
 t5:=Tryz.underlying5
 a5:=Tryz.isAgg5
 z5:=Tryz.sizeOf5
 v5:=Tryz.zeroValue5
 t9:=Tryz.underlying9
 a9:=Tryz.isAgg9
 z9:=Tryz.sizeOf9
 v9:=Tryz.zeroValue9
 t25:=Tryz.underlying46
 a25:=Tryz.isAgg46
 z25:=Tryz.sizeOf46
 v25:=Tryz.zeroValue46
 t26:=Tryz.underlying9
 a26:=Tryz.isAgg9
 z26:=Tryz.sizeOf9
 v26:=Tryz.zeroValue9
 t44:=Tryz.underlying129
 a44:=Tryz.isAgg129
 z44:=Tryz.sizeOf129
 v44:=Tryz.zeroValue129
 t51:=Tryz.underlying246
 a51:=Tryz.isAgg246
 z51:=Tryz.sizeOf246
 v51:=Tryz.zeroValue246
 t60:=Tryz.underlying372
 a60:=Tryz.isAgg372
 z60:=Tryz.sizeOf372
 v60:=Tryz.zeroValue372
 t61:=Tryz.underlying373
 a61:=Tryz.isAgg373
 z61:=Tryz.sizeOf373
 v61:=Tryz.zeroValue373
 t67:=Tryz.underlying228
 a67:=Tryz.isAgg228
 z67:=Tryz.sizeOf228
 v67:=Tryz.zeroValue228
 t69:=Tryz.underlying285
 a69:=Tryz.isAgg285
 z69:=Tryz.sizeOf285
 v69:=Tryz.zeroValue285
 t75:=Tryz.underlying396
 a75:=Tryz.isAgg396
 z75:=Tryz.sizeOf396
 v75:=Tryz.zeroValue396
 t79:=Tryz.underlying400
 a79:=Tryz.isAgg400
 z79:=Tryz.sizeOf400
 v79:=Tryz.zeroValue400
 t83:=Tryz.underlying422
 a83:=Tryz.isAgg422
 z83:=Tryz.sizeOf422
 v83:=Tryz.zeroValue422
 t84:=Tryz.underlying288
 a84:=Tryz.isAgg288
 z84:=Tryz.sizeOf288
 v84:=Tryz.zeroValue288
def Ms:Ren:=⟨fun | 44=>135 | n=>n,fun | 0=>0 | 3=>3 | 4=>4 | 25=>46 | 26=>9 | n=>n,fun n=>n⟩
theorem A6:SlLaysN.n44 Tryz.prog Ms where
 mixed:=by kernel_rfl
 f44:=⟨(Tryz.f135).name,by kernel_rfl,Tryz.func135.trans (congrArg some (by kernel_rfl))⟩
 t0:=Tryz.underlying0
 a0:=Tryz.isAgg0
 z0:=Tryz.sizeOf0
 v0:=Tryz.zeroValue0
 t3:=Tryz.underlying3
 a3:=Tryz.isAgg3
 z3:=Tryz.sizeOf3
 v3:=Tryz.zeroValue3
 t4:=Tryz.underlying4
 a4:=Tryz.isAgg4
 z4:=Tryz.sizeOf4
 v4:=Tryz.zeroValue4
 t25:=Tryz.underlying46
 a25:=Tryz.isAgg46
 z25:=Tryz.sizeOf46
 v25:=Tryz.zeroValue46
 t26:=Tryz.underlying9
 a26:=Tryz.isAgg9
 z26:=Tryz.sizeOf9
 v26:=Tryz.zeroValue9
 i26:=by kernel_rfl
def T5:Ren:=⟨fun | 26=>138 | 33=>202 | 34=>203 | 38=>256 | n=>n,fun | 0=>0 | 3=>3 | 4=>4 | 9=>9 | 24=>46 | 40=>246 | n=>n,fun n=>n⟩
theorem Q6:Lays2.n26 Tryz.prog T5 where
 mixed:=by kernel_rfl
 f26:=Tryz.func138.trans (congrArg some (by kernel_rfl))
 f33:=Tryz.func202.trans (congrArg some (by kernel_rfl))
 f34:=Tryz.func203.trans (congrArg some (by kernel_rfl))
 f38:=Tryz.func256.trans (congrArg some (by kernel_rfl))
 t0:=Tryz.underlying0
 a0:=Tryz.isAgg0
 z0:=Tryz.sizeOf0
 v0:=Tryz.zeroValue0
 t3:=Tryz.underlying3
 a3:=Tryz.isAgg3
 z3:=Tryz.sizeOf3
 v3:=Tryz.zeroValue3
 t4:=Tryz.underlying4
 a4:=Tryz.isAgg4
 z4:=Tryz.sizeOf4
 v4:=Tryz.zeroValue4
 t9:=Tryz.underlying9
 a9:=Tryz.isAgg9
 z9:=Tryz.sizeOf9
 v9:=Tryz.zeroValue9
 t24:=Tryz.underlying46
 a24:=Tryz.isAgg46
 z24:=Tryz.sizeOf46
 v24:=Tryz.zeroValue46
 t40:=Tryz.underlying246
 a40:=Tryz.isAgg246
 z40:=Tryz.sizeOf246
 v40:=Tryz.zeroValue246
end
/- state.flag; the place of a name in a sorted list. -/
section
open Go.Shelf Go.RowKit
theorem MM(b:Bool)(w:World):Calls Tryz.prog 137 #[.bool b] w fun e w'=>e=.returned (.int .i64 (if b=true then 1 else 0))∧w'=w:=by
 go_enter Tryz.func137,Tryz.ntmps137
 cases b
 · go_wp2_with fail
   all_goals
    (go_ret
     exact⟨rfl,rfl⟩)
 · go_wp2_with fail
   all_goals
    (go_ret
     exact⟨rfl,rfl⟩)
theorem VE(w:World)(B:Nat)(d:Option Addr)(n c:Nat)(l:List ByteArray)(x:ByteArray)(k:Nat)(aj:w.ownsRow B 9 1 (.slice d n c) n (strCells l))(hl:l.length=n)(hs:l.Pairwise fun a b=>a.toList<b.toList)(hk:l[k]?=some x)(hn:n≤1000000000):
 Calls Tryz.prog 138 #[.slice d n c,.string x] w fun e w'=>e=.returned (.tuple #[.int .i64 k,.bool true])∧Below w.heap.size w w':=by
 obtain⟨KL,QD⟩:=List.getElem?_eq_some_iff.1 hk
 obtain⟨g,rfl,mh,My,bA⟩:=ax aj (by omega)
 have hc:∀j,j<n→w.cell? ⟨g,0+j,none⟩=some (.string ((fun t=>if h:t<l.length then l[t]else x) j)):=by
  intro j hj
  have Lh:j<l.length:=by omega
  have h9:=bA j (.string l[j]) (by simp[strCells,List.getElem?_eq_getElem Lh])
  simpa [Lh]using h9
 have hg:Lib.bsGo (fun t=>Op.bytesLess ((fun t=>if h:t<l.length then l[t]else x) t).toList x.toList) n 0 n=k:=by
  refine Lib.bsGo_spec _ k ?_ ?_ n 0 n (by omega) (by omega) (by omega)
  · intro t ht
    have AK:t<l.length:=by omega
    simp only[AK,dif_pos]
    rw[bytesLess_eq,←QD]
    exact decide_eq_true (List.pairwise_iff_getElem.1 hs t k AK KL ht)
  · intro t ht
    rw[bytesLess_eq]
    refine decide_eq_false ?_
    by_cases AK:t<l.length
    · simp only[AK,dif_pos]
      rw[←QD]
      by_cases e:k=t
      · subst e
        exact List.lt_irrefl _
      · exact List.lt_asymm (List.pairwise_iff_getElem.1 hs k t KL AK (by omega))
    · simp only[AK,dif_neg,not_false_eq_true]
      exact List.lt_irrefl _
 have h:=Any2.slices_BinarySearch_string Q6 g 0 n c (fun t=>if h:t<l.length then l[t]else x) x w (by omega) hc
 rw[hg]at h
 refine Calls.mono h ?_
 rintro e w' ⟨rfl,q,rfl⟩
 refine⟨?_,⟨rfl,rfl,rfl,Nat.le_refl _,fun _ _=>rfl⟩⟩
 have:k<n:=by omega
 simp[this,KL,QD]
end
/- slices.Sort and slices.Compact at names. -/
section
open Go.Shelf Go.RowKit
open Go.Sort (grow Holds putRow)
def vG(l:List (List UInt8)):List Value:=l.map encStr
theorem xx(d:List (List UInt8))(c:Array Value)(h:d.length≤c.size):(Go.Sort.putCells encStr 0 d.toArray c).toList.take d.length=vG d∧(Go.Sort.putCells encStr 0 d.toArray c).size=c.size:=by
 have hs:(Go.Sort.putCells encStr 0 d.toArray c).size=c.size:=by simp[Go.Sort.putCells]
 refine⟨?_,hs⟩
 apply List.ext_getElem
 · simp[hs,vG];omega
 · intro t h1 h2
   have ht:t<d.length:=by simpa [vG]using h2
   rw[List.getElem_take,Array.getElem_toList]
   simp only[Go.Sort.putCells,Array.getElem_mapIdx]
   rw[if_pos ⟨Nat.zero_le _,by simpa using ht⟩,Nat.sub_zero,getElem!_pos d.toArray t (by simpa using ht)]
   simp[vG]
theorem yf{B:Nat}{w:World}{g n c q:Nat}{l l':List (List UInt8)}{os:Array Obj}(aj:w.ownsRow B 9 1 (.slice (some ⟨g,0,none⟩) n c) n (vG l))(hl:l'.length=l.length):
 (grow (putRow encStr (Go.Sort.ahead w q) g 0 l'.toArray) os).ownsRow B 9 1 (.slice (some ⟨g,0,none⟩) n c) n (vG l')∧Kb [g] w (grow (putRow encStr (Go.Sort.ahead w q) g 0 l'.toArray) os):=by
 have hn:l.length=n:=by have:=aj.1;simpa [vG]using this
 rcases aj.2 with⟨e,_⟩ | ⟨g',cap,cur,e,hB,hg,NP,uw,uP,_⟩
 · simp at e
 · simp only[Value.slice.injEq,Option.some.injEq,Addr.mk.injEq,and_true,true_and]at e
   obtain⟨rfl,rfl⟩:=e
   have aC:=lt_of_heap hg
   have xC:(grow (putRow encStr (Go.Sort.ahead w q) g 0 l'.toArray) os).heap=w.heap.modify g (Go.Sort.onCells (Go.Sort.putCells encStr 0 l'.toArray))++os:=rfl
   obtain⟨p1,p2⟩:=xx l' cur (by rw[uP];omega)
   refine⟨⟨by simp[vG,hl,hn],.inr ⟨g,c,Go.Sort.putCells encStr 0 l'.toArray cur,rfl,hB, ?_,NP,uw,by rw[p2,uP], ?_⟩⟩,⟨rfl,rfl,rfl, ?_, ?_⟩⟩
   · rw[xC,Array.getElem?_append_left (by simpa using aC),Array.getElem?_modify,if_pos rfl,hg]
     rfl
   · rw[show n*1=l'.length by omega,p1]
   · rw[xC];simp
   · intro k hk cL
     rw[xC,Array.getElem?_append_left (by simpa using hk),Array.getElem?_modify,if_neg (by simp at cL;omega)]
theorem Bz{B:Nat}{w:World}{g n c:Nat}{l:List (List UInt8)}(aj:w.ownsRow B 9 1 (.slice (some ⟨g,0,none⟩) n c) n (vG l)):Holds encStr w g 0 l.toArray∧g<w.heap.size:=by
 obtain⟨cur,hg⟩:=ay aj (b:=g) rfl
 have kR:=World.ownsRow.cells aj (g:=g) rfl
 refine⟨?_,lt_of_heap hg⟩
 intro j hj
 have hj':j<l.length:=by simpa using hj
 refine⟨?_,by simp[World.frozen?,hg]⟩
 have h9:=kR j (encStr l[j]) (by simp[vG,List.getElem?_eq_getElem hj'])
 rw[getElem!_pos l.toArray j hj]
 rcases j with _ | j
 · simpa [Addr.add]using h9
 · simpa [Addr.add]using h9
theorem Ll(B:Nat)(w:World)(g n c:Nat)(l:List (List UInt8))(aj:w.ownsRow B 9 1 (.slice (some ⟨g,0,none⟩) n c) n (vG l))(hn:n≤1000000000):
 Calls Tryz.prog 134 #[.slice (some ⟨g,0,none⟩) n c] w fun e w'=>e=.returned (.tuple #[])∧w'.ownsRow B 9 1 (.slice (some ⟨g,0,none⟩) n c) n (vG (l.mergeSort fun x y=>decide (x≤y)))∧Kb [g] w w':=by
 have Dc:l.length=n:=by have:=aj.1;simpa [vG]using this
 obtain⟨hH,aC⟩:=Bz aj
 have h:=AnyG.slices_Sort_string Br g 0 c l w hH aC (by omega)
 rw[Dc]at h
 refine Calls.mono h ?_
 rintro e w' ⟨rfl,q,os,rfl⟩
 exact⟨rfl,yf aj (by simp)⟩
theorem JW{B:Nat}{w:World}{g n m c:Nat}{xs:List Value}(aj:w.ownsRow B 9 1 (.slice (some ⟨g,0,none⟩) n c) n xs)(hm:m≤n):w.ownsRow B 9 1 (.slice (some ⟨g,0,none⟩) m c) m (xs.take m):=by
 have hn:xs.length=n*1:=aj.1
 rcases aj.2 with⟨e,_⟩ | ⟨g',cap,cur,e,hB,hg,NP,uw,uP,hc4⟩
 · simp at e
 · simp only[Value.slice.injEq,Option.some.injEq,Addr.mk.injEq,and_true,true_and]at e
   obtain⟨rfl,rfl⟩:=e
   refine⟨by rw[List.length_take];omega,.inr ⟨g,c,cur,rfl,hB,hg,by omega,uw,uP, ?_⟩⟩
   rw[←hc4,List.take_take,Nat.min_eq_left (by omega),Nat.mul_one]
theorem nT(l:List (List UInt8)):(Lib.compact l).length≤l.length:=by
 unfold Lib.compact Lib.compactUpTo
 rw[List.length_map]
 exact Nat.le_trans (List.length_filter_le _ _) (by simp)
theorem LI(B:Nat)(w:World)(g n c:Nat)(l:List (List UInt8))(aj:w.ownsRow B 9 1 (.slice (some ⟨g,0,none⟩) n c) n (vG l))(hn:n≤1000000000)(hc:n≤c):
 Calls Tryz.prog 135 #[.slice (some ⟨g,0,none⟩) n c] w fun e w'=>e=.returned (.slice (some ⟨g,0,none⟩) (Lib.compact l).length c)∧w'.ownsRow B 9 1 (.slice (some ⟨g,0,none⟩) (Lib.compact l).length c) (Lib.compact l).length (vG (Lib.compact l))∧Kb [g] w w':=by
 have Dc:l.length=n:=by have:=aj.1;simpa [vG]using this
 obtain⟨hH,aC⟩:=Bz aj
 have hle:=nT l
 have h:=AnyG.slices_Compact_string A6 g 0 c l w hH (by omega) (by omega)
 rw[Dc]at h
 refine Calls.mono h ?_
 rintro e w' ⟨rfl,q,rfl⟩
 obtain⟨r1,r2⟩:=yf (q:=q) (os:=#[]) (l':=Lib.compact l++List.replicate (n-(Lib.compact l).length) []) aj (by simp;omega)
 rw[Go.Sort.grow_empty]at r1 r2
 refine⟨rfl, ?_,r2⟩
 have h9:=JW r1 (m:=(Lib.compact l).length) (by omega)
 rwa [show(vG (Lib.compact l++List.replicate (n-(Lib.compact l).length) [])).take (Lib.compact l).length=vG (Lib.compact l) by simp[vG]]at h9
end
/- Names sorted and compacted: each once, in the order of their bytes. -/
section
theorem Dl(l:List (List UInt8))(x:List UInt8):x∈Lib.compact l↔x∈l:=by
 unfold Lib.compact Lib.compactUpTo
 simp only[List.mem_map,List.mem_filter,List.mem_range]
 constructor
 · rintro⟨t,⟨ht,_⟩,rfl⟩
   rw[getElem!_pos l.toArray t (by simpa using ht)]
   simp
 · intro hx
   obtain⟨t,ht,rfl⟩:=List.mem_iff_getElem.1 hx
   clear hx
   induction t with
   | zero=>exact⟨0,⟨ht,Lib.keeps_lt_one _ 0 (by omega)⟩,by rw[getElem!_pos l.toArray 0 (by simpa using ht)];simp⟩
   | succ t ih=>
    by_cases hk:Lib.keeps l.toArray (t+1)=true
    · exact⟨t+1,⟨ht,hk⟩,by rw[getElem!_pos l.toArray (t+1) (by simpa using ht)];simp⟩
    · obtain⟨j,hj,e⟩:=ih (by omega)
      refine⟨j,hj, ?_⟩
      rw[e]
      simp only[Lib.keeps]at hk
      rw[getElem!_pos l.toArray (t+1) (by simpa using ht),show t+1-1=t by omega,getElem!_pos l.toArray t (by simp;omega)]at hk
      simp at hk
      exact hk.symm
theorem wO(l:List (List UInt8))(hs:l.Pairwise fun a b=>a≤b):(Lib.compact l).Pairwise fun a b=>a<b:=by
 unfold Lib.compact Lib.compactUpTo
 rw[List.pairwise_map]
 have h:((List.range l.length).filter (Lib.keeps l.toArray)).Pairwise fun a b=>a<b:=List.Pairwise.filter _ List.pairwise_lt_range
 refine List.Pairwise.imp_of_mem ?_ h
 intro a b ha hb pS
 simp only[List.mem_filter,List.mem_range]at ha hb
 obtain⟨fE,fC⟩:=hb
 have e0:∀t (h:t<l.length),l.toArray[t]! =l[t]:=fun t h=>by rw[getElem!_pos l.toArray t (by simpa using h)];simp
 rw[e0 a ha.1,e0 b fE]
 have cL:l[b]≠l[b-1]:=by
  simp only[Lib.keeps]at fC
  rw[e0 b fE,e0 (b-1) (by omega)]at fC
  simp at fC
  rcases fC with h9 | h9
  · omega
  · exact h9
 have h1:l[a]≤l[b-1]:=by
  by_cases e:a=b-1
  · subst e
    exact List.le_refl _
  · exact List.pairwise_iff_getElem.1 hs a (b-1) ha.1 (by omega) (by omega)
 have h2:l[b-1]≤l[b]:=List.pairwise_iff_getElem.1 hs (b-1) b (by omega) fE (by omega)
 have h3:l[b-1]<l[b]:=by
  rcases Decidable.em (l[b-1]<l[b])with h | h
  · exact h
  · exact absurd (List.le_antisymm (List.not_lt.1 h) h2) cL
 exact List.lt_of_le_of_lt h1 h3
theorem rF(l:List (List UInt8)):(Lib.compact (l.mergeSort fun x y=>decide (x≤y))).Pairwise (fun a b=>a<b)∧∀x,x∈Lib.compact (l.mergeSort fun x y=>decide (x≤y))↔x∈l:=by
 refine⟨wO _ ?_,fun x=>by rw[Dl,List.mem_mergeSort]⟩
 have h:=List.pairwise_mergeSort (le:=fun x y:List UInt8=>decide (x≤y)) (fun a b c h1 h2=>by simp only[decide_eq_true_eq]at *;exact List.le_trans h1 h2) (fun a b=>by simp only[Bool.or_eq_true,decide_eq_true_eq];exact List.le_total a b) l
 exact h.imp (fun h=>by simpa using h)
end
end Go.Proofs.YtdmicblafmhflaaGreatDoor
