/- Least's arguments, read: rules, and a script's steps. -/
import Derived.Test.YtdmicblafmhflaaGreatDoorC40
import Derived.ChangeSame
import Derived.ChangeSlices
import Derived.Deep.Strs
import Derived.Deep.Slices
import Derived.Deep.Matrix
import Derived.Test.YtdmicblafmhflaaGreatDoorC36
import Derived.Test.YtdmicblafmhflaaGreatDoorC19
import Derived.Test.YtdmicblafmhflaaGreatDoorC14
import Derived.Test.YtdmicblafmhflaaGreatDoorC37
import Derived.Lib.SliceRun
import Derived.OwnWalk
import Derived.Deep.RegionHeld3
import Derived.Shelf.SlLaysNS
import Derived.Shelf.SlicesG.CompactS
import Derived.Shelf.Spec.SearchS
set_option linter.unusedSimpArgs false
set_option linter.unusedVariables false
set_option maxHeartbeats 4000000
set_option maxRecDepth 100000
namespace Go.Proofs.YtdmicblafmhflaaGreatDoor
section
open Go.ChangeShapes Go.WideShapes Go.RowKit Go.Deep
theorem Tryz.D4:Tryz.prog.cellsOf 3=1:=by kernel_rfl
theorem Tryz.qy:Tryz.prog.cellsOf 91=3:=by kernel_rfl
theorem Tryz.wU:Tryz.prog.cellsOf 94=4:=by kernel_rfl
theorem Tryz.Dm:Tryz.prog.cellsOf 92=1:=by kernel_rfl
theorem Tryz.xN:Tryz.prog.cellsOf 33=2:=by kernel_rfl
theorem Tryz.J5:Tryz.prog.cellsOf 31=1:=by kernel_rfl
theorem Jf{n:Int}(h:(Lit.int .i64 n).wf=true):cn n:=by
 simp[Lit.wf,IntKind.min,IntKind.max,IntKind.signed,IntKind.bits]at h
 unfold cn
 omega
theorem WS{α:Type}{l:List α}(h:l.length=3):∃a b c,l=[a,b,c]:=by
 match l,h with
 | [a,b,c],_=>exact⟨a,b,c,rfl⟩
theorem Yb{α:Type}{l:List α}(h:l.length=4):∃a b c d,l=[a,b,c,d]:=by
 match l,h with
 | [a,b,c,d],_=>exact⟨a,b,c,d,rfl⟩
section
variable {H : Type} {enc : TypeId × Value → H} {W : World} {held : Bool}
theorem vi{α:Type}(d:α){t e:TypeId}{sz:Nat}{fuel:Nat}{cs:List Value}{x:DataW H×List MemPlace}(ht:Tryz.prog.underlying t=some (.slice e))(hce:Tryz.prog.cellsOf e=sz)(DF:0<sz)
 (h:DataW.trod enc Tryz.prog W 0 (fun _=>true) held fuel t cs=some x)(Q:List Value→α→Prop)(hQ:∀n Cl y,DataW.trod enc Tryz.prog W 0 (fun _=>true) held n e Cl=some y→∃a,Q Cl a):
 ∃ad len cap,∃l:List α,cs=[.slice ad len cap]∧l.length=len∧len≤cap∧cap≤maxLen∧(ad=none→len=0)∧
  ∀k (hk:k<l.length),∃g o,ad=some ⟨g,o,none⟩∧∃Cl,Cl.length=sz∧(∀j,j<sz→W.cell? ⟨g,o+k*sz+j,none⟩=Cl[j]?)∧Q Cl l[k]:=by
 rcases open_slice ht h with⟨rfl,_⟩ | ⟨a,len,cap,m,n,D,Pl,rfl,_,hl,hm,VE,_,qG⟩
 · exact⟨none,0,0,[],rfl,rfl,Nat.le_refl _,Nat.zero_le _,fun _=>rfl,fun k hk=>absurd hk (Nat.not_lt_zero _)⟩
 · simp only[if_true]at VE
   subst VE
   rw[hce]at qG
   have ai0:Inhabited α:=⟨d⟩
   obtain⟨f,hf⟩:=choose_lt (α:=α) (n:=len) (p:=fun i y=>∃Cl,W.cells? 0 (a.add (i*sz)) sz=some Cl∧Q Cl y) (fun i hi=>by
    obtain⟨Cl,h1,h2⟩:=qG i (by omega)
    obtain⟨y,hy⟩:=hQ _ _ _ h2
    exact⟨y,Cl,h1,hy⟩)
   refine⟨some a,len,m,(List.range len).map f,rfl,by simp,hl,hm,(fun e=>by cases e), ?_⟩
   intro k hk
   have A0:k<len:=by simpa using hk
   obtain⟨g,o,sp⟩:=a
   have SD:sp=none:=by
    obtain⟨Cl,h1,_⟩:=hf 0 (by omega)
    obtain⟨_,hlen,hc⟩:=World.cells?_some h1
    have:=hc 0 DF
    rw[List.getElem?_eq_getElem (by omega)]at this
    simpa [Addr.add]using World.cell?_spot this
   subst SD
   refine⟨g,o,rfl, ?_⟩
   obtain⟨Cl,h1,h2⟩:=hf k A0
   obtain⟨_,hlen,hc⟩:=World.cells?_some h1
   refine⟨Cl,hlen,fun j hj=> ?_,by simpa using h2⟩
   rw[←hc j hj,Addr.add_lit,Addr.add_lit]
theorem BS{n:Nat}{cs:List Value}{y:DataW H×List MemPlace}(h:DataW.trod enc Tryz.prog W 0 (fun _=>true) held n 3 cs=some y):∃z:Int,cs=[.int .i64 z]∧cn z:=by
 obtain⟨z,e,_,hw⟩:=DataW.trod_int Tryz.underlying3 h
 exact⟨z,e,Jf hw⟩
theorem G4{n:Nat}{cs:List Value}{y:DataW H×List MemPlace}(h:DataW.trod enc Tryz.prog W 0 (fun _=>true) held n 91 cs=some y):
 ∃a:Ax.eo,cs=[.int .i64 a.pred,.int .i64 a.a,.int .i64 a.b]∧cn a.pred∧cn a.a∧cn a.b:=by
 obtain⟨y0,y1,y2,m,_,hl,t0,t1,t2⟩:=trod_struct3 Tryz.underlying91 h
 rw[Tryz.qy]at hl
 obtain⟨c0,c1,c2,rfl⟩:=WS hl
 rw[Tryz.D4]at t0 t1 t2
 obtain⟨z0,e0,f0⟩:=BS t0
 obtain⟨z1,e1,f1⟩:=BS t1
 obtain⟨z2,e2,f2⟩:=BS t2
 clear t0 t1 t2 h hl
 have k0:c0=.int .i64 z0:=by simpa using e0
 have k1:c1=.int .i64 z1:=by simpa using e1
 have k2:c2=.int .i64 z2:=by simpa using e2
 clear e0 e1 e2
 subst k0 k1 k2
 exact⟨⟨z0,z1,z2⟩,rfl,f0,f1,f2⟩
theorem KG{g o:Nat}{cs:List Value}{a:Ax.eo}(hc:∀j,j<3→W.cell? ⟨g,o+j,none⟩=cs[j]?)(h:cs=[.int .i64 a.pred,.int .i64 a.a,.int .i64 a.b])(f0:cn a.pred)(f1:cn a.a)(f2:cn a.b):s7 W g o a:=by
 subst h
 exact⟨hc 0 (by decide),hc 1 (by decide),hc 2 (by decide),f0,f1,f2⟩
theorem Rk{n:Nat}{cs:List Value}{y:DataW H×List MemPlace}(h:DataW.trod enc Tryz.prog W 0 (fun _=>true) held n 92 cs=some y):∃ad len cap,∃l:List Ax.eo,cs=[.slice ad len cap]∧fo W ad len cap l:=by
 obtain⟨ad,len,cap,l,e,h1,h2,h3,h4,h5⟩:=vi (⟨0,0,0⟩:Ax.eo) Tryz.underlying92 Tryz.qy (by decide) h (fun cs a=>cs=[.int .i64 a.pred,.int .i64 a.a,.int .i64 a.b]∧cn a.pred∧cn a.a∧cn a.b) (fun _ _ _ hy=>G4 hy)
 refine⟨ad,len,cap,l,e,h1,h2,h3,h4,fun k hk=> ?_⟩
 obtain⟨g,o,ea,Cl,_,hc,q1,q2,q3,q4⟩:=h5 k hk
 exact⟨g,o,ea,KG hc q1 q2 q3 q4⟩
theorem ints_at{n:Nat}{cs:List Value}{y:DataW H×List MemPlace}(h:DataW.trod enc Tryz.prog W 0 (fun _=>true) held n 31 cs=some y):∃ad len cap,∃l:List Int,cs=[.slice ad len cap]∧fI W ad len cap l:=by
 obtain⟨ad,len,cap,l,e,h1,h2,h3,_,h5⟩:=vi (0:Int) Tryz.underlying31 Tryz.D4 (by decide) h (fun cs z=>cs=[.int .i64 z]∧cn z) (fun _ _ _ hy=>BS hy)
 refine⟨ad,len,cap,l,e,h1,h2,h3,fun k hk=> ?_⟩
 obtain⟨g,o,ea,Cl,_,hc,q1,q2⟩:=h5 k hk
 refine⟨g,o,ea, ?_,q2⟩
 have:=hc 0 (by decide)
 rw[q1]at this
 simpa using this
theorem Re{n:Nat}{cs:List Value}{y:DataW H×List MemPlace}(h:DataW.trod enc Tryz.prog W 0 (fun _=>true) held n 94 cs=some y):
 ∃r:Ax.aA,∃bd bn bc,cs=[.int .i64 r.head.pred,.int .i64 r.head.a,.int .i64 r.head.b,.slice bd bn bc]∧(cn r.head.pred∧cn r.head.a∧cn r.head.b)∧fo W bd bn bc r.body:=by
 obtain⟨y0,y1,m,_,hl,t0,t1⟩:=trod_struct2 Tryz.underlying94 h
 rw[Tryz.wU]at hl
 obtain⟨c0,c1,c2,c3,rfl⟩:=Yb hl
 rw[Tryz.qy]at t0
 rw[Tryz.Dm]at t1
 obtain⟨a,ea,fa⟩:=G4 t0
 obtain⟨bd,bn,bc,l,el,hB⟩:=Rk t1
 clear t0 t1 h hl
 have ka:c0=.int .i64 a.pred∧c1=.int .i64 a.a∧c2=.int .i64 a.b:=by simpa using ea
 have kl:c3=.slice bd bn bc:=by simpa using el
 clear ea el
 obtain⟨rfl,rfl,rfl⟩:=ka
 subst kl
 exact⟨⟨a,l⟩,bd,bn,bc,rfl,fa,hB⟩
theorem Og{n:Nat}{cs:List Value}{y:DataW H×List MemPlace}(h:DataW.trod enc Tryz.prog W 0 (fun _=>true) held n 25 cs=some y):∃ad len cap,∃l:List Ax.aA,cs=[.slice ad len cap]∧eF W ad len cap l:=by
 obtain⟨ad,len,cap,l,e,h1,h2,h3,_,h5⟩:=vi (⟨⟨0,0,0⟩,[]⟩:Ax.aA) Tryz.underlying25 Tryz.wU (by decide) h (fun cs r=>∃bd bn bc,cs=[.int .i64 r.head.pred,.int .i64 r.head.a,.int .i64 r.head.b,.slice bd bn bc]∧(cn r.head.pred∧cn r.head.a∧cn r.head.b)∧fo W bd bn bc r.body) (fun _ _ _ hy=>Re hy)
 refine⟨ad,len,cap,l,e,h1,h2,h3,fun k hk=> ?_⟩
 obtain⟨g,o,ea,Cl,_,hc,bd,bn,bc,q1,⟨q2,q3,q4⟩,q5⟩:=h5 k hk
 subst q1
 exact⟨g,o,ea,⟨hc 0 (by decide),hc 1 (by decide),hc 2 (by decide),q2,q3,q4⟩,bd,bn,bc,hc 3 (by decide),q5⟩
theorem YN{α:Type}{l:List α}(h:l.length=2):∃a b,l=[a,b]:=by
 match l,h with
 | [a,b],_=>exact⟨a,b,rfl⟩
theorem P2{n:Nat}{cs:List Value}{y:DataW H×List MemPlace}(h:DataW.trod enc Tryz.prog W 0 (fun _=>true) held n 33 cs=some y):
 ∃x:List Int×List Int,∃a1 n1 c1 a2 n2 c2,cs=[.slice a1 n1 c1,.slice a2 n2 c2]∧fI W a1 n1 c1 x.1∧fI W a2 n2 c2 x.2:=by
 obtain⟨y0,y1,m,_,hl,t0,t1⟩:=trod_struct2 Tryz.underlying33 h
 rw[Tryz.xN]at hl
 obtain⟨c0,c1,rfl⟩:=YN hl
 rw[Tryz.J5]at t0 t1
 obtain⟨a1,n1,k1,l1,e1,i1⟩:=ints_at t0
 obtain⟨a2,n2,k2,l2,e2,i2⟩:=ints_at t1
 clear t0 t1 h hl
 have ka:c0=.slice a1 n1 k1:=by simpa using e1
 have kb:c1=.slice a2 n2 k2:=by simpa using e2
 subst ka kb
 exact⟨(l1,l2),a1,n1,k1,a2,n2,k2,rfl,i1,i2⟩
theorem DP{n:Nat}{cs:List Value}{y:DataW H×List MemPlace}(h:DataW.trod enc Tryz.prog W 0 (fun _=>true) held n 26 cs=some y):∃ad len cap,∃l:List (List Int×List Int),cs=[.slice ad len cap]∧vN W ad len cap l:=by
 obtain⟨ad,len,cap,l,e,h1,h2,h3,_,h5⟩:=vi (([],[]):List Int×List Int) Tryz.underlying26 Tryz.xN (by decide) h (fun cs x=>∃a1 n1 c1 a2 n2 c2,cs=[.slice a1 n1 c1,.slice a2 n2 c2]∧fI W a1 n1 c1 x.1∧fI W a2 n2 c2 x.2) (fun _ _ _ hy=>P2 hy)
 refine⟨ad,len,cap,l,e,h1,h2,h3,fun k hk=> ?_⟩
 obtain⟨g,o,ea,Cl,_,hc,a1,n1,c1,a2,n2,c2,q1,i1,i2⟩:=h5 k hk
 subst q1
 exact⟨g,o,ea,a1,n1,c1,a2,n2,c2,hc 0 (by decide),hc 1 (by decide),i1,i2⟩
theorem vJ{n:Nat}{t e:TypeId}{ad:Option Addr}{len cap:Nat}{y:DataW H×List MemPlace}(ht:Tryz.prog.underlying t=some (.slice e))(h:DataW.trod enc Tryz.prog W 0 (fun _=>true) held n t [.slice ad len cap]=some y):len=0∨∃es sp,y.1=.slice es sp∧es.length=len:=by
 rcases DataW.trod_slice ht h with⟨h1,_⟩ | ⟨a,l',c',el,rs,m,_,h1,hx,_,_,_,hel,_⟩
 · left
   simp at h1
   exact h1.2.1
 · right
   simp at h1
   refine⟨el.map (·.1),rs.map (·.1),by rw[hx], ?_⟩
   rw[List.length_map,hel]
   exact h1.2.1.symm
end
end
/- Engine.All; what of an engine's predicate is listed. -/
section
open Go.RowKit Go.Maps Go.WideMaps Go.WideElems
def cW(H:Nat→Bool)(p:ByteArray):List Nat:=(List.range 36).filter fun i=>H i&&decide ((bk i).1=p)
theorem gS{H:Nat→Bool}{p:ByteArray}{i:Nat}:i∈cW H p↔i<36∧H i=true∧(bk i).1=p:=by
 simp[cW,and_assoc]
structure Lst(H:Nat→Bool)(p:ByteArray)(js:List Nat):Prop where
 mem:∀j,j∈js↔j<36∧H j=true∧(bk j).1=p
 ord:js.Pairwise fun a b=>Tb.c8 (Tb.dw (bk a).2) (Tb.dw (bk b).2)<0
theorem KU{j:Nat}(hj:j<36):(Tb.dw (bk j).2).take (bk j).2.length=(bk j).2:=by
 have key:∀p x y,(Tb.dw (pC p x y).2).take (pC p x y).2.length=(pC p x y).2:=by
  intro p x y
  unfold pC
  split<;>rfl
 unfold bk
 split
 · exact key _ _ _
 · split<;>exact key _ _ _
theorem N9{H:Nat→Bool}{p:ByteArray}{pl:Nat}(hp:(p,pl)∈jW):∀(L:List (List ByteArray)),(∀r,r∈L→∃j,j<36∧H j=true∧(p,r)=En.uF j)→∃js:List Nat,L=js.map (fun j=>Tb.dw (bk j).2)∧L.map (fun r=>(p,r.take pl))=js.map bk∧∀j,j∈js→j<36∧H j=true∧(bk j).1=p
 | [],_=>⟨[],rfl,rfl,by simp⟩
 | r::L,h=>by
  obtain⟨js,e1,e2,e3⟩:=N9 hp L (fun x hx=>h x (by simp[hx]))
  obtain⟨j,hj,hH,e⟩:=h r (by simp)
  rw[iN]at e
  have ep:p=(bk j).1:=congrArg Prod.fst e
  have er:r=Tb.dw (bk j).2:=congrArg Prod.snd e
  have la:pl=(bk j).2.length:=xQ (p:=p) hp (by rw[ep];exact kp hj)
  refine⟨j::js,by rw[List.map_cons,←e1,er], ?_, ?_⟩
  · rw[List.map_cons,List.map_cons,e2,er,la,KU hj,ep]
  · intro i hi
    rcases List.mem_cons.1 hi with rfl | hi
    · exact⟨hj,hH,ep.symm⟩
    · exact e3 i hi
end
/- What an engine's predicate lists, as a list that the rules and the given facts settle. -/
section
theorem N8{α:Type}{R:α→α→Prop}(asy:∀a b,R a b→¬R b a):∀(l1 l2:List α),l1.Pairwise R→l2.Pairwise R→(∀x,x∈l1↔x∈l2)→l1=l2
 | [],[],_,_,_=>rfl
 | [],b::l2,_,_,h=>absurd ((h b).2 (by simp)) (by simp)
 | a::l1,[],_,_,h=>absurd ((h a).1 (by simp)) (by simp)
 | a::l1,b::l2,h1,h2,h=>by
  rw[List.pairwise_cons]at h1 h2
  have e:a=b:=by
   rcases List.mem_cons.1 ((h a).1 (by simp))with e | ha
   · exact e
   · rcases List.mem_cons.1 ((h b).2 (by simp))with e | hb
     · exact e.symm
     · exact absurd (h2.1 a ha) (asy _ _ (h1.1 b hb))
  subst e
  have hi:∀x,R a x→x≠a:=fun x hx e=>by
   subst e
   exact asy _ _ hx hx
  rw[N8 asy l1 l2 h1.2 h2.2 (fun x=>⟨fun hx=> ?_,fun hx=> ?_⟩)]
  · rcases List.mem_cons.1 ((h x).1 (by simp[hx]))with e | h9
    · exact absurd e (hi x (h1.1 x hx))
    · exact h9
  · rcases List.mem_cons.1 ((h x).2 (by simp[hx]))with e | h9
    · exact absurd e (hi x (h2.1 x hx))
    · exact h9
theorem QV:∀i,i<36→∀j,j<36→i<j→(bk i).1=(bk j).1→Tb.c8 (Tb.dw (bk i).2) (Tb.dw (bk j).2)<0:=by
 decide+kernel
theorem Ke(H:Nat→Bool)(p:ByteArray):(cW H p).Pairwise fun a b=>Tb.c8 (Tb.dw (bk a).2) (Tb.dw (bk b).2)<0:=by
 have h:(cW H p).Pairwise fun a b=>a<b:=List.Pairwise.filter _ List.pairwise_lt_range
 refine List.Pairwise.imp_of_mem ?_ h
 intro a b ha hb rG
 have h1:=gS.1 ha
 have h2:=gS.1 hb
 exact QV a h1.1 b h2.1 rG (h1.2.2.trans h2.2.2.symm)
theorem Lst.eq{H:Nat→Bool}{p:ByteArray}{js:List Nat}(h:Lst H p js):js=cW H p:=
 N8 (fun a b h1 h2=>by have h3:=Tb.kM h1 h2;rw[Tb.oF]at h3;omega) _ _ h.ord (Ke H p) (fun x=>(h.mem x).trans gS.symm)
end
/- axiomkeep.run: an engine behind a script. -/
section
open Go.RowKit Go.Maps
theorem PZ(K:Nat→Int)(w:World)(ad:Option Addr)(m c:Nat)(kl:List Ax.aA)(hR:eF w ad m c kl)(sd:Option Addr)(sn sc:Nat)(sl:List (List Int×List Int))(hS:vN w sd sn sc sl)(hs:sl.length≤2000000)(hK:Dg.AR w K)(hU:eM w):
 Calls Tryz.prog 22 #[.slice ad m c,.slice sd sn sc] w fun e w'=>∃sb eg,e=.returned (.pointer (some ⟨sb,0,none⟩))∧ph w.heap.size w' sb eg (.slice ad (min m 6) c) kl (jt sl) (jt sl) sl.length∧Below w.heap.size w w':=by
 have xM:=hS.len
 subst xM
 have ll:=hS.cap
 have hmx:sc≤9223372036854775807:=hS.max
 have EL:Hid (Calls Tryz.prog 13 #[.slice ad m c] w fun e w'=>∃sb eg,e=.returned (.pointer (some ⟨sb,0,none⟩))∧Hid (ph w.heap.size w' sb eg (.slice ad (min m 6) c) kl (jt (sl.take 0)) (jt (sl.take 0)) 0∧Below w.heap.size w w')):=(NM K w ad m c kl hR hK).mono (fun e w' ⟨sb,eg,a,b⟩=>⟨sb,eg,a,b⟩)
 have Ld:Hid (∀W sb eg gv n k (hk:k<sl.length) g o,n≤2000000→sd=some ⟨g,o,none⟩→ph w.heap.size W sb eg (.slice ad (min m 6) c) kl gv gv n→Below w.heap.size w W→∃a1 n1 c1 a2 n2 c2,W.cell? ⟨g,o+k*2,none⟩=some (.slice a1 n1 c1)∧W.cell? ⟨g,o+k*2+1,none⟩=some (.slice a2 n2 c2)∧Calls Tryz.prog 15 #[.pointer (some ⟨sb,0,none⟩),.agg #[.slice a1 n1 c1,.slice a2 n2 c2]] W fun e w'=>e=.returned (.bool true)∧ph w.heap.size w' sb eg (.slice ad (min m 6) c) kl (ij gv sl[k]) (ij gv sl[k]) (n+1)∧Below w.heap.size w w'):=by
  intro W sb eg gv n k hk g o hn hsd hW hb
  obtain⟨g',o',e,a1,n1,c1,a2,n2,c2,q1,q2,i1,i2⟩:=hS.at_ k hk
  rw[hsd]at e
  simp only[Option.some.injEq,Addr.mk.injEq,and_true]at e
  obtain⟨rfl,rfl⟩:=e
  have sM:∀W',Below w.heap.size W W'→Below w.heap.size w W':=fun W' h=>hb.trans h
  refine⟨a1,n1,c1,a2,n2,c2,bl hb q1,bl hb q2, ?_⟩
  refine(F7 K w.heap.size W sb eg _ kl gv n hW hn (fun W' h=>⟨hK.below (sM W' h),Utf8Tabs_below hU (sM W' h)⟩) a1 n1 c1 _ (fun W' h _=>i1.below (sM W' h)) (fun g o e hl=>by have:=i1.lt g o e hl;have:=hW.le;omega) a2 n2 c2 _ (fun W' h _=>i2.below (sM W' h)) (fun g o e hl=>by have:=i2.lt g o e hl;have:=hW.le;omega)).mono ?_
  rintro e w' ⟨rfl,r1,r2,_⟩
  exact⟨rfl,r1,hb.trans r2⟩
 have YB:Hid (∀k,k<sl.length→∃g o,sd=some ⟨g,o,none⟩):=fun k hk=>by
  obtain⟨g,o,e,_⟩:=hS.at_ k hk
  exact⟨g,o,e⟩
 clear hR hS hK hU
 go_enter Tryz.func22,Tryz.ntmps22
 go_wp2_with (go_at_call 13;refine EL.out.mono ?_;rintro e w1 ⟨sb,eg,rfl,QS⟩)
 clear EL
 go_loopw [6] (fun i wr=>∃(k:Nat),k≤sl.length∧i=.int .i64 k∧ph w.heap.size wr sb eg (.slice ad (min m 6) c) kl (jt (sl.take k)) (jt (sl.take k)) k∧Below w.heap.size w wr) (fun i _=>sl.length-(intOf i).toNat)
 case atStart=>exact⟨0,Nat.zero_le _,rfl,QS.out.1,QS.out.2⟩
 case round=>
  obtain⟨k,hk,rfl,hW,hb⟩:=hrel
  clear QS
  by_cases aG:k<sl.length
  · have Ez:decide ((k:Int)<(sl.length:Int))=true:=decide_eq_true (by omega)
    obtain⟨g,o,AK⟩:=YB.out k aG
    obtain⟨a1,n1,c1,a2,n2,c2,q1,q2,Cd⟩:=Ld.out wr sb eg _ k k aG g o (by omega) AK hW hb
    have eX:Hid (jt (sl.take (k+1))=ij (jt (sl.take k)) sl[k]):=by
     have e0:sl.take (k+1)=sl.take k++[sl[k]]:=by rw[List.take_add_one,List.getElem?_eq_getElem aG];rfl
     have e1:jt (sl.take (k+1))=ij (jt (sl.take k)) sl[k]:=by rw[e0,Fj]
     exact e1
    rw[←eX.out]at Cd
    have LQ:Hid _:=Cd
    subst AK
    clear Cd hW hb Ld
    go_wp2_with (go_at_call 15;refine(show Calls Tryz.prog 15 _ _ _ from LQ.out).mono ?_;rintro e w5 ⟨rfl,hS5,hB5⟩)
    go_roundw
    case rel=>exact⟨k+1,aG,by go_num,hS5,hB5⟩
    case measure=>simp[intOf];omega
  · have Ez:decide ((k:Int)<(sl.length:Int))=false:=decide_eq_false (by omega)
    have e9:k=sl.length:=by omega
    have HW:Hid (ph w.heap.size wr sb eg (.slice ad (min m 6) c) kl (jt sl) (jt sl) sl.length∧Below w.heap.size w wr):=by
     rw[e9,List.take_length]at hW
     exact⟨hW,hb⟩
    clear hW hb Ld YB e9
    go_wp2_with fail
    all_goals
     (go_ret
      exact⟨sb,eg,rfl,HW.out⟩)
end
/- axiomkeep.alike: two engines with the same rules and the same given facts tell the same. -/
section
open Go.RowKit Go.Maps
theorem zD(kl:List Ax.aA)(gv:Nat→Bool):∀(n k:Nat),k<n→(cA kl gv n)[k*3]?=some (.bool (gv k))∧(cA kl gv n)[k*3+1]?=some (.bool (En.al (En.af kl) gv k))∧(cA kl gv n)[k*3+2]?=some (.int .i64 (lq kl gv k:Nat))
 | 0,k,h=>by omega
 | n+1,k,h=>by
  have hl:∀n,(cA kl gv n).length=n*3:=by
   intro n
   induction n with
   | zero=>rfl
   | succ n ih=>rw[iE,List.length_append,ih];simp;omega
  rw[iE]
  by_cases h9:k<n
  · obtain⟨a,b,c⟩:=zD kl gv n k h9
    rw[List.getElem?_append_left (by rw[hl];omega),List.getElem?_append_left (by rw[hl];omega),List.getElem?_append_left (by rw[hl];omega)]
    exact⟨a,b,c⟩
  · have e:k=n:=by omega
    subst e
    rw[List.getElem?_append_right (by rw[hl];omega),List.getElem?_append_right (by rw[hl];omega),List.getElem?_append_right (by rw[hl];omega),hl]
    refine⟨by simp, ?_, ?_⟩
    · rw[show k*3+1-k*3=1 by omega];rfl
    · rw[show k*3+2-k*3=2 by omega];rfl
theorem Jz(w:World)(B sb eg:Nat)(rv:Value)(B2 ZQ eg2:Nat)(rv2:Value)(kl:List Ax.aA)(gv:Nat→Bool)(n n2:Nat)(hS:dv w sb eg rv gv)(hE:nG w B eg kl gv n)(hS2:dv w ZQ eg2 rv2 gv)(RL:nG w B2 eg2 kl gv n2)(hg:fX gv)(hU:eM w):
 Calls Tryz.prog 26 #[.pointer (some ⟨sb,0,none⟩),.pointer (some ⟨ZQ,0,none⟩)] w fun e w'=>e=.returned (.bool true)∧Below w.heap.size w w':=by
 have Sp:Hid (Calls Tryz.prog 36 #[.pointer (some ⟨sb,0,none⟩)] w fun e w'=>∃od oc,e=.returned (.tuple #[.slice od 36 oc,.bool true])∧Hid (w'.ownsRow w.heap.size 52 3 (.slice od 36 oc) 36 (cA kl gv 36)∧Below w.heap.size w w')):=(qf w B sb eg rv kl gv n hS hE hg hU).mono (fun e w' ⟨od,oc,a,b⟩=>⟨od,oc,a,b⟩)
 have HT2:Hid (∀W,Below w.heap.size w W→Calls Tryz.prog 36 #[.pointer (some ⟨ZQ,0,none⟩)] W fun e w'=>∃od oc,e=.returned (.tuple #[.slice od 36 oc,.bool true])∧Hid (w'.ownsRow W.heap.size 52 3 (.slice od 36 oc) 36 (cA kl gv 36)∧Below W.heap.size W w')):=fun W hW=>(qf W B2 ZQ eg2 rv2 kl gv n2 (hS2.below hW) (RL.below hW) hg (Utf8Tabs_below hU hW)).mono (fun e w' ⟨od,oc,a,b⟩=>⟨od,oc,a,b⟩)
 clear hS hE hS2 RL hg hU
 go_enter Tryz.func26,Tryz.ntmps26
 go_upto_region 2 with(go_at_call 36;refine Sp.out.mono ?_;rintro e w1 ⟨ad,ac,rfl,H1⟩)
 go_wp2_with (go_at_call 36;refine(HT2.out _ H1.out.2).mono ?_;rintro e w2 ⟨bd,bc,rfl,H2⟩)
 have HB:Hid (Below w.heap.size w w2):=H1.out.2.trans (H2.out.2.mono H1.out.2.size)
 have HR1:Hid (w2.ownsRow w.heap.size 52 3 (.slice ad 36 ac) 36 (cA kl gv 36)):=ah H1.out.1 H2.out.2
 have Kp:Hid (w2.ownsRow w1.heap.size 52 3 (.slice bd 36 bc) 36 (cA kl gv 36)):=H2.out.1
 obtain⟨g,rfl,mO,JF,br⟩:=aD HR1.out (by omega)
 obtain⟨g2,rfl,aii,ajn,uP⟩:=aD Kp.out (by omega)
 have HC:Hid (∀k,k<36→∀W,Below w2.heap.size w2 W→W.cell? ⟨g,k*3,none⟩=some (.bool (gv k))∧W.cell? ⟨g,k*3+1,none⟩=some (.bool (En.al (En.af kl) gv k))∧W.cell? ⟨g,k*3+2,none⟩=some (.int .i64 (lq kl gv k:Nat))∧W.cell? ⟨g2,k*3,none⟩=some (.bool (gv k))∧W.cell? ⟨g2,k*3+1,none⟩=some (.bool (En.al (En.af kl) gv k))∧W.cell? ⟨g2,k*3+2,none⟩=some (.int .i64 (lq kl gv k:Nat))):=by
  intro k hk W hW
  obtain⟨q1,q2,q3⟩:=zD kl gv 36 k hk
  exact⟨bl hW (br _ _ q1),bl hW (br _ _ q2),bl hW (br _ _ q3),bl hW (uP _ _ q1),bl hW (uP _ _ q2),bl hW (uP _ _ q3)⟩
 clear Sp HT2 H1 H2 HR1 Kp br uP
 go_wp2_with fail
 go_loopw [9] (fun i wr=>∃(k:Nat),k≤36∧i=.int .i64 k∧Below w2.heap.size w2 wr) (fun i _=>36-(intOf i).toNat)
 case atStart=>exact⟨0,by omega,rfl,Below.refl _ _⟩
 case round=>
  obtain⟨k,hk,rfl,hb⟩:=hrel
  have HBK:Hid (Below w2.heap.size w2 wr):=hb
  by_cases aG:k<36
  · have Ez:decide ((k:Int)<36)=true:=decide_eq_true (by omega)
    obtain⟨c0,c1,c2,c3,c4,c5⟩:=HC.out k aG wr hb
    have b1:(0:Int)≤(k:Int):=by omega
    have b2:(k:Int)<36:=by omega
    clear hb
    generalize En.al (En.af kl) gv k=nV at*
    generalize lq kl gv k=Sq at*
    generalize gv k=U6 at*
    go_upto_region 8 with fail
    go_quiet (fail)
    obtain⟨w9,O8⟩:∃w9,w9=wr.drewN nq:=⟨_,rfl⟩
    have b9:Below wr.heap.size wr w9:=by rw[O8];exact⟨rfl,rfl,rfl,Nat.le_refl _,fun _ _=>rfl⟩
    have HB9:Hid (Below w2.heap.size w2 w9):=HBK.out.trans (b9.mono HBK.out.size)
    rw[←O8]
    clear O8 b9
    go_wp2_with fail
    all_goals
     (go_roundw
      case rel=>exact⟨k+1,by omega,by go_num,HB9.out⟩
      case measure=>(simp[intOf];omega))
  · have Ez:decide ((k:Int)<36)=false:=decide_eq_false (by omega)
    clear hb
    go_wp2_with fail
    all_goals
     (go_ret
      exact⟨rfl,HB.out.trans (HBK.out.mono HB.out.size)⟩)
end
/- slices.Sort, slices.Compact, slices.BinarySearch at strings, as the shelf lays them. -/
section
open Go.Shelf Go.RowKit
def Mc:Ren:=⟨fun | 54=>134 | 61=>202 | 64=>191 | 65=>201 | 69=>256 | 78=>241 | 79=>242 | 89=>268 | 90=>269 | 80=>248 | 81=>249 | 82=>250 | 83=>251 | 84=>252 | 85=>253 | 86=>254 | 87=>255 | 93=>274 | 94=>275 | 95=>276 | 97=>290 | n=>n,fun | 0=>0 | 3=>3 | 4=>4 | 5=>5 | 9=>9 | 25=>46 | 26=>9 | 44=>129 | 51=>246 | 60=>372 | 61=>373 | 67=>228 | 69=>285 | 75=>396 | 79=>400 | 83=>422 | 84=>288 | n=>n,fun n=>n⟩
theorem zC:SlLaysN.n54 Tryz.prog Mc where
 mixed:=by kernel_rfl
 f54:=⟨(Tryz.f134).name,by kernel_rfl,Tryz.func134.trans (congrArg some (by kernel_rfl))⟩
 f61:=⟨(Tryz.f202).name,by kernel_rfl,Tryz.func202.trans (congrArg some (by kernel_rfl))⟩
 f64:=Tryz.func191.trans (congrArg some (by kernel_rfl))
 f65:=⟨(Tryz.f201).name,by kernel_rfl,Tryz.func201.trans (congrArg some (by kernel_rfl))⟩
 f69:=⟨(Tryz.f256).name,by kernel_rfl,Tryz.func256.trans (congrArg some (by kernel_rfl))⟩
 f78:=Tryz.func241.trans (congrArg some (by kernel_rfl))
 f79:=Tryz.func242.trans (congrArg some (by kernel_rfl))
 f80:=⟨(Tryz.f248).name,by kernel_rfl,Tryz.func248.trans (congrArg some (by kernel_rfl))⟩
 f81:=⟨(Tryz.f249).name,by kernel_rfl,Tryz.func249.trans (congrArg some (by kernel_rfl))⟩
 f82:=⟨(Tryz.f250).name,by kernel_rfl,Tryz.func250.trans (congrArg some (by kernel_rfl))⟩
 f83:=⟨(Tryz.f251).name,by kernel_rfl,Tryz.func251.trans (congrArg some (by kernel_rfl))⟩
 f84:=⟨(Tryz.f252).name,by kernel_rfl,Tryz.func252.trans (congrArg some (by kernel_rfl))⟩
 f85:=⟨(Tryz.f253).name,by kernel_rfl,Tryz.func253.trans (congrArg some (by kernel_rfl))⟩
 f86:=⟨(Tryz.f254).name,by kernel_rfl,Tryz.func254.trans (congrArg some (by kernel_rfl))⟩
 f87:=⟨(Tryz.f255).name,by kernel_rfl,Tryz.func255.trans (congrArg some (by kernel_rfl))⟩
 f89:=Tryz.func268.trans (congrArg some (by kernel_rfl))
 f90:=Tryz.func269.trans (congrArg some (by kernel_rfl))
 f93:=⟨(Tryz.f274).name,by kernel_rfl,Tryz.func274.trans (congrArg some (by kernel_rfl))⟩
 f94:=⟨(Tryz.f275).name,by kernel_rfl,Tryz.func275.trans (congrArg some (by kernel_rfl))⟩
 f95:=⟨(Tryz.f276).name,by kernel_rfl,Tryz.func276.trans (congrArg some (by kernel_rfl))⟩
 f97:=⟨(Tryz.f290).name,by kernel_rfl,Tryz.func290.trans (congrArg some (by kernel_rfl))⟩
 t0:=Tryz.underlying0
 a0:=Tryz.isAgg0
 z0:=Tryz.sizeOf0
 v0:=Tryz.zeroValue0
 t3:=Tryz.underlying3
 a3:=Tryz.isAgg3
 z3:=Tryz.sizeOf3
 v3:=Tryz.zeroValue3
 t4:=Tryz.underlying4
 a4:=Tryz.isAgg4
 z4:=Tryz.sizeOf4
 v4:=Tryz.zeroValue4
 t5:=Tryz.underlying5
 a5:=Tryz.isAgg5
 z5:=Tryz.sizeOf5
 v5:=Tryz.zeroValue5
 t9:=Tryz.underlying9
 a9:=Tryz.isAgg9
 z9:=Tryz.sizeOf9
 v9:=Tryz.zeroValue9
 t25:=Tryz.underlying46
 a25:=Tryz.isAgg46
 z25:=Tryz.sizeOf46
 v25:=Tryz.zeroValue46
 t26:=Tryz.underlying9
 a26:=Tryz.isAgg9
 z26:=Tryz.sizeOf9
 v26:=Tryz.zeroValue9
 t44:=Tryz.underlying129
 a44:=Tryz.isAgg129
 z44:=Tryz.sizeOf129
 v44:=Tryz.zeroValue129
 t51:=Tryz.underlying246
 a51:=Tryz.isAgg246
 z51:=Tryz.sizeOf246
 v51:=Tryz.zeroValue246
 t60:=Tryz.underlying372
 a60:=Tryz.isAgg372
 z60:=Tryz.sizeOf372
 v60:=Tryz.zeroValue372
 t61:=Tryz.underlying373
 a61:=Tryz.isAgg373
 z61:=Tryz.sizeOf373
 v61:=Tryz.zeroValue373
 t67:=Tryz.underlying228
 a67:=Tryz.isAgg228
 z67:=Tryz.sizeOf228
 v67:=Tryz.zeroValue228
 t69:=Tryz.underlying285
 a69:=Tryz.isAgg285
 z69:=Tryz.sizeOf285
 v69:=Tryz.zeroValue285
 t75:=Tryz.underlying396
 a75:=Tryz.isAgg396
 z75:=Tryz.sizeOf396
 v75:=Tryz.zeroValue396
 t79:=Tryz.underlying400
 a79:=Tryz.isAgg400
 z79:=Tryz.sizeOf400
 v79:=Tryz.zeroValue400
 t83:=Tryz.underlying422
 a83:=Tryz.isAgg422
 z83:=Tryz.sizeOf422
 v83:=Tryz.zeroValue422
 t84:=Tryz.underlying288
 a84:=Tryz.isAgg288
 z84:=Tryz.sizeOf288
 v84:=Tryz.zeroValue288
def M0:Ren:=⟨fun | 44=>135 | n=>n,fun | 0=>0 | 3=>3 | 4=>4 | 25=>46 | 26=>9 | n=>n,fun n=>n⟩
theorem zS:SlLaysN.n44 Tryz.prog M0 where
 mixed:=by kernel_rfl
 f44:=⟨(Tryz.f135).name,by kernel_rfl,Tryz.func135.trans (congrArg some (by kernel_rfl))⟩
 t0:=Tryz.underlying0
 a0:=Tryz.isAgg0
 z0:=Tryz.sizeOf0
 v0:=Tryz.zeroValue0
 t3:=Tryz.underlying3
 a3:=Tryz.isAgg3
 z3:=Tryz.sizeOf3
 v3:=Tryz.zeroValue3
 t4:=Tryz.underlying4
 a4:=Tryz.isAgg4
 z4:=Tryz.sizeOf4
 v4:=Tryz.zeroValue4
 t25:=Tryz.underlying46
 a25:=Tryz.isAgg46
 z25:=Tryz.sizeOf46
 v25:=Tryz.zeroValue46
 t26:=Tryz.underlying9
 a26:=Tryz.isAgg9
 z26:=Tryz.sizeOf9
 v26:=Tryz.zeroValue9
 i26:=by kernel_rfl
def Ut:Ren:=⟨fun | 26=>138 | 33=>202 | 34=>203 | 38=>256 | n=>n,fun | 0=>0 | 3=>3 | 4=>4 | 9=>9 | 24=>46 | 40=>246 | n=>n,fun n=>n⟩
theorem Q9:Lays2.n26 Tryz.prog Ut where
 mixed:=by kernel_rfl
 f26:=Tryz.func138.trans (congrArg some (by kernel_rfl))
 f33:=Tryz.func202.trans (congrArg some (by kernel_rfl))
 f34:=Tryz.func203.trans (congrArg some (by kernel_rfl))
 f38:=Tryz.func256.trans (congrArg some (by kernel_rfl))
 t0:=Tryz.underlying0
 a0:=Tryz.isAgg0
 z0:=Tryz.sizeOf0
 v0:=Tryz.zeroValue0
 t3:=Tryz.underlying3
 a3:=Tryz.isAgg3
 z3:=Tryz.sizeOf3
 v3:=Tryz.zeroValue3
 t4:=Tryz.underlying4
 a4:=Tryz.isAgg4
 z4:=Tryz.sizeOf4
 v4:=Tryz.zeroValue4
 t9:=Tryz.underlying9
 a9:=Tryz.isAgg9
 z9:=Tryz.sizeOf9
 v9:=Tryz.zeroValue9
 t24:=Tryz.underlying46
 a24:=Tryz.isAgg46
 z24:=Tryz.sizeOf46
 v24:=Tryz.zeroValue46
 t40:=Tryz.underlying246
 a40:=Tryz.isAgg246
 z40:=Tryz.sizeOf246
 v40:=Tryz.zeroValue246
end
/- state.flag; the place of a name in a sorted list. -/
section
open Go.Shelf Go.RowKit
theorem OT(b:Bool)(w:World):Calls Tryz.prog 137 #[.bool b] w fun e w'=>e=.returned (.int .i64 (if b=true then 1 else 0))∧w'=w:=by
 go_enter Tryz.func137,Tryz.ntmps137
 cases b
 · go_wp2_with fail
   all_goals
    (go_ret
     exact⟨rfl,rfl⟩)
 · go_wp2_with fail
   all_goals
    (go_ret
     exact⟨rfl,rfl⟩)
theorem SY(w:World)(B:Nat)(d:Option Addr)(n c:Nat)(l:List ByteArray)(x:ByteArray)(k:Nat)(au:w.ownsRow B 9 1 (.slice d n c) n (strCells l))(hl:l.length=n)(hs:l.Pairwise fun a b=>a.toList<b.toList)(hk:l[k]?=some x)(hn:n≤1000000000):
 Calls Tryz.prog 138 #[.slice d n c,.string x] w fun e w'=>e=.returned (.tuple #[.int .i64 k,.bool true])∧Below w.heap.size w w':=by
 obtain⟨IA,PR⟩:=List.getElem?_eq_some_iff.1 hk
 obtain⟨g,rfl,mO,JF,br⟩:=aD au (by omega)
 have hc:∀j,j<n→w.cell? ⟨g,0+j,none⟩=some (.string ((fun t=>if h:t<l.length then l[t]else x) j)):=by
  intro j hj
  have Hw:j<l.length:=by omega
  have h9:=br j (.string l[j]) (by simp[strCells,List.getElem?_eq_getElem Hw])
  simpa [Hw]using h9
 have hg:Lib.bsGo (fun t=>Op.bytesLess ((fun t=>if h:t<l.length then l[t]else x) t).toList x.toList) n 0 n=k:=by
  refine Lib.bsGo_spec _ k ?_ ?_ n 0 n (by omega) (by omega) (by omega)
  · intro t ht
    have x7:t<l.length:=by omega
    simp only[x7,dif_pos]
    rw[bytesLess_eq,←PR]
    exact decide_eq_true (List.pairwise_iff_getElem.1 hs t k x7 IA ht)
  · intro t ht
    rw[bytesLess_eq]
    refine decide_eq_false ?_
    by_cases x7:t<l.length
    · simp only[x7,dif_pos]
      rw[←PR]
      by_cases e:k=t
      · subst e
        exact List.lt_irrefl _
      · exact List.lt_asymm (List.pairwise_iff_getElem.1 hs k t IA x7 (by omega))
    · simp only[x7,dif_neg,not_false_eq_true]
      exact List.lt_irrefl _
 have h:=Any2.slices_BinarySearch_string Q9 g 0 n c (fun t=>if h:t<l.length then l[t]else x) x w (by omega) hc
 rw[hg]at h
 refine Calls.mono h ?_
 rintro e w' ⟨rfl,q,rfl⟩
 refine⟨?_,⟨rfl,rfl,rfl,Nat.le_refl _,fun _ _=>rfl⟩⟩
 have:k<n:=by omega
 simp[this,IA,PR]
end
end Go.Proofs.YtdmicblafmhflaaGreatDoor
