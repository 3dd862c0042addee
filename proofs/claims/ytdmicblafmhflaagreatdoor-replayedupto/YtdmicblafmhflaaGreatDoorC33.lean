/- state.Make. -/
import Derived.Test.YtdmicblafmhflaaGreatDoorC24
import Derived.Test.YtdmicblafmhflaaGreatDoorC29
import Derived.Test.YtdmicblafmhflaaGreatDoorC32
import Derived.Test.YtdmicblafmhflaaGreatDoorC08
import Derived.Test.YtdmicblafmhflaaGreatDoorC09
import Derived.Test.YtdmicblafmhflaaGreatDoorC10
import Derived.Test.YtdmicblafmhflaaGreatDoorC13
import Derived.Test.YtdmicblafmhflaaGreatDoorC23
import Derived.Test.YtdmicblafmhflaaGreatDoorC27
import Derived.Maps.OwnSet
import Derived.Deep.MidRow
set_option linter.unusedSimpArgs false
set_option linter.unusedVariables false
set_option maxHeartbeats 2000000
set_option maxRecDepth 100000
namespace Go.Proofs.YtdmicblafmhflaaGreatDoor
section
open Go.RowKit Go.Maps
theorem lH.toG{w w':World}{mb:Nat}{G N:List GT}(h:lH w w' mb G [] N)(hs:∀t,t∈G→t.nm.size≤1000000)(hn:(G.map GT.nm).Nodup)(hl:G.length≤1000):lB w' mb N∧(N.map jZ).Perm (G.map jZ):=by
 have hp:(N.map jZ).Perm (G.map jZ):=by simpa using h.data
 have ga:(N.map GT.nm).Perm (G.map GT.nm):=by
  have:=hp.map Prod.fst
  simpa [List.map_map,Function.comp_def,jZ]using this
 obtain⟨D,ho,hD⟩:=h.map
 refine⟨⟨ks.of ho (by have:=h.CZ;omega) hD,fun t ht=>(h.b7 t ht).1,h.apart,ga.nodup_iff.2 hn,fun t ht=> ?_⟩,hp⟩
 have:t.nm∈G.map GT.nm:=ga.mem_iff.1 (List.mem_map_of_mem ht)
 obtain⟨u,hu,e⟩:=List.mem_map.1 this
 rw[←e]
 exact hs u hu
def aO(pl:ByteArray)(rv:Value)(gm hm:Nat)(hd:List UInt8):Array Value:=([Value.string pl,rv,.map (some gm),.map (some hm)]++Rc.bA hd).toArray
theorem xU(o:Nat):∀(U:List Value) (k:Nat) (cur:Array Value),o+k+U.length≤cur.size→
 (U.zipIdx k).foldl (fun cs x=>cs.setIfInBounds (o+x.snd) x.fst) cur=(cur.toList.take (o+k)++U++cur.toList.drop (o+k+U.length)).toArray
 | [],k,cur,_=>by simp
 | v::U,k,cur,hl=>by
  rw[List.length_cons]at hl
  rw[List.zipIdx_cons,List.foldl_cons,xU o U (k+1) _ (by simp;omega)]
  have e1:(cur.setIfInBounds (o+k) v).toList.take (o+(k+1))=cur.toList.take (o+k)++[v]:=by
   rw[Array.toList_setIfInBounds,←Nat.add_assoc,List.take_add_one,List.take_set_of_le (Nat.le_refl _),List.getElem?_set_self (by simp;omega)]
   rfl
  have e2:(cur.setIfInBounds (o+k) v).toList.drop (o+(k+1)+U.length)=cur.toList.drop (o+k+(v::U).length):=by
   rw[Array.toList_setIfInBounds,List.drop_set_of_lt (by omega),List.length_cons]
   congr 1
   omega
  simp only[e1,e2]
  simp
def pZ(a b c d:Value):Array Value:=#[a,b,c,d,.int .u8 0,.int .u8 0,.int .u8 0,.int .u8 0,.int .u8 0,.int .u8 0,.int .u8 0,.int .u8 0,.int .u8 0,.int .u8 0,.int .u8 0,.int .u8 0,.int .u8 0,.int .u8 0,.int .u8 0,.int .u8 0,.int .u8 0,.int .u8 0,.int .u8 0,.int .u8 0,.int .u8 0,.int .u8 0,.int .u8 0,.int .u8 0,.int .u8 0,.int .u8 0,.int .u8 0,.int .u8 0,.int .u8 0,.int .u8 0,.int .u8 0,.int .u8 0]
theorem Q7(a b c d:Value){U:List Value}(h:U.length=32):(U.zipIdx).foldl (fun cs x=>cs.setIfInBounds (4+x.snd) x.fst) (pZ a b c d)=([a,b,c,d]++U).toArray:=by
 rw[xU 4 U 0 _ (by rw[h];exact Nat.le_refl 36)]
 have e1:(pZ a b c d).toList.take (4+0)=[a,b,c,d]:=rfl
 have e2:(pZ a b c d).toList.drop (4+0+U.length)=[]:=by rw[h];rfl
 rw[e1,e2,List.append_nil]
structure LD(w:World)(pl:ByteArray)(rv:Value)(U:List Value)(W:World):Prop where
 aZ:Below w.heap.size w W
 b0:W.heap[w.heap.size]?=some (.cells #[.string pl,rv] 101 (0,0))
 b1:W.heap[w.heap.size+1]?=some (.cells U.toArray 105 (0,0))
 b2:∃cur:Array Value,W.heap[w.heap.size+2]?=some (.cells cur 107 (0,0))∧cur.size=36
theorem LD.init{w:World}{pl:ByteArray}{rv:Value}{U:List Value}{Z:Array Value}(hz:Z.size=36):LD w pl rv U (((w.alloc (.cells #[.string pl,rv] 101)).alloc (.cells U.toArray 105)).alloc (.cells Z 107)):=by
 refine⟨(((Below.refl _ _).alloc (Nat.le_refl _) _).alloc (by simp) _).alloc (by simp only[World.size_alloc];omega) _, ?_, ?_,Z, ?_,hz⟩
 · rw[Below.heap_alloc _ _ _ (by simp only[World.size_alloc];omega),Below.heap_alloc _ _ _ (by simp)]
   exact heap_alloc_new w _
 · rw[Below.heap_alloc _ _ _ (by simp)]
   exact qv w _ _
 · have:=qv (w.alloc (.cells #[.string pl,rv] 101)) (.cells U.toArray 105) (.cells Z 107)
   simpa using this
theorem LD.below{w W W':World}{pl:ByteArray}{rv:Value}{U:List Value}(h:LD w pl rv U W)(hb:Below W.heap.size W W'):LD w pl rv U W':=by
 obtain⟨cur,h2,h3⟩:=h.b2
 exact⟨h.aZ.trans (hb.mono h.aZ.size),by rw[hb.block _ (lt_of_heap h.b0)];exact h.b0,by rw[hb.block _ (lt_of_heap h.b1)];exact h.b1,cur,by rw[hb.block _ (lt_of_heap h2)];exact h2,h3⟩
theorem LD.cells{w W:World}{pl:ByteArray}{rv:Value}{U:List Value}(h:LD w pl rv U W):W.cell? ⟨w.heap.size,0,none⟩=some (.string pl)∧W.cell? ⟨w.heap.size,1,none⟩=some rv:=⟨by rw[cell_of_row _ _ _ _ _ _ h.b0];rfl,by rw[cell_of_row _ _ _ _ _ _ h.b0];rfl⟩
theorem oe{G:List GT}{t:GT}(h:t∈G):t.L.length≤mS G:=by
 induction G with
 | nil=>cases h
 | cons a G ih=>
  unfold mS at ih ⊢
  rw[List.map_cons,List.sum_cons]
  rcases List.mem_cons.1 h with rfl | h
  · omega
  · have:=ih h;omega
theorem yn(w:World)(pl:ByteArray)(rd:Option Addr)(rc:Nat)(l:List MR)(hl:fF w rd rc l)(Aa:l.length≤8)(h1:Pd.One (bP (l.map MR.aw)))(cA:l≠[])(cE:∀p,p∈bP (l.map MR.aw)→p.1.size≤1000000)
 (gm:Nat)(G:List GT)(hG:lB w gm G)(RM:∀p,p∈bP (l.map MR.aw)→p.1∈G.map GT.nm)(hGt:mS G≤40)(hd:List UInt8)(St:hd.length=32)
 (dD:∀Q,Pd.vF Q→(∀p,p∈Q↔p∈bP (l.map MR.aw))→(fi (l.map MR.aw) (dm Q G)).isSome=true):
 Calls Tryz.prog 57 #[.agg #[.string pl,.slice rd l.length rc],.map (some gm),.agg (Rc.bA hd).toArray] w fun e w'=>∃hm T s Q,e=.returned (.tuple #[.agg (aO pl (.slice rd l.length rc) gm hm hd),.bool true])∧
  Pd.vF Q∧(∀p,p∈Q↔p∈bP (l.map MR.aw))∧fi (l.map MR.aw) (dm Q G)=some s∧pG w' hm T s∧T.map ig=Q.reverse∧(∀b,b∈cK hm T→w.heap.size≤b)∧Below w.heap.size w w':=by
 have acy:∀t,t∈G→t.L.length≤1000:=fun t ht=>Nat.le_trans (oe ht) (by omega)
 have VS:Hid (∀W,LD w pl (.slice rd l.length rc) (Rc.bA hd) W→Calls Tryz.prog 110 #[.map (some gm)] W fun e w'=>e=.returned (.int .i64 (mS G:Nat))∧Hid (LD w pl (.slice rd l.length rc) (Rc.bA hd) w')∧w'.cell? ⟨w.heap.size,0,none⟩=some (.string pl)∧w'.cell? ⟨w.heap.size,1,none⟩=some (.slice rd l.length rc)):=by
  intro W hW
  refine(Lm W gm G (hG.below hW.aZ) (by omega)).mono ?_
  rintro e w' ⟨rfl,hb⟩
  exact⟨rfl,hW.below hb,(hW.below hb).cells.1,(hW.below hb).cells.2⟩
 have HMO:Hid (∀W,Hid (LD w pl (.slice rd l.length rc) (Rc.bA hd) W)→Calls Tryz.prog 111 #[.agg #[.string pl,.slice rd l.length rc],.map (some gm)] W fun e w'=>∃hm,e=.returned (.tuple #[.map (some hm),.bool true])∧Hid (LD w pl (.slice rd l.length rc) (Rc.bA hd) w')∧w'.cell? ⟨w.heap.size,0,none⟩=some (.string pl)∧w'.cell? ⟨w.heap.size,1,none⟩=some (.slice rd l.length rc)∧Hid (∃T s Q,Pd.vF Q∧(∀p,p∈Q↔p∈bP (l.map MR.aw))∧fi (l.map MR.aw) (dm Q G)=some s∧pG w' hm T s∧T.map ig=Q.reverse∧(∀b,b∈cK hm T→w.heap.size+3≤b))):=by
  intro W hW
  have hW:=hW.out
  refine(I2 W pl rd rc l (hl.below hW.aZ) Aa h1 cA cE gm G (hG.below hW.aZ) RM acy).mono ?_
  rintro e w' ⟨Q,hQ,hp⟩
  rcases hp.ans with⟨hm,T,s,rfl,q1,q2,q3,q4⟩ | ⟨_,q⟩
  · have aE:w.heap.size+2<W.heap.size:=by
     obtain⟨cur,e,_⟩:=hW.b2
     exact lt_of_heap e
    exact⟨hm,rfl,hW.below hp.aZ,(hW.below hp.aZ).cells.1,(hW.below hp.aZ).cells.2,T,s,Q,hQ.out.1,hQ.out.2,q1,q2,q3,fun b hb=>by have:=q4 b hb;omega⟩
  · have:=dD Q hQ.out.1 hQ.out.2
    rw[q]at this
    cases this
 have Fg:(Rc.bA hd).length=32:=by rw[Rc.bB,St]
 have Ts:=Rc.o4 hd
 have ev:aO pl (.slice rd l.length rc) gm=fun hm hd=>([Value.string pl,.slice rd l.length rc,.map (some gm),.map (some hm)]++Rc.bA hd).toArray:=rfl
 rw[ev]
 generalize hU:(Rc.bA hd)=U at Fg Ts VS HMO ⊢
 have dg:(Value.agg U.toArray).cells=U.toArray:=rfl
 have Sa:∀a b c d:Value,([a,b,c,d]++U).toArray.size=36:=by intros;simp[Fg]
 clear dD hl hG RM cE h1 cA
 go_enter Tryz.func57,Tryz.ntmps57
 go_wp2_with (first | (go_at_call 110;refine(VS.out _ (by exact LD.init rfl)).mono ?_;rintro e w1 ⟨rfl,HM1,c0,c1⟩) | (go_at_call 111;refine(HMO.out _ HM1).mono ?_;rintro e w2 ⟨hm,rfl,Wf,d0,d1,HE⟩) | (refine wpList_load_row rfl _ _ rfl (w.heap.size+1) rfl _ _ _ _ Wf.out.b1 Tryz.underlying105 rfl (by rw[List.size_toArray,Fg];kernel_rfl) ?_) | (obtain⟨cur,cM,bH⟩:=Wf.out.b2;refine wpList_store_row rfl 107 (.tmp 6) (.tmp 27) rfl (w.heap.size+1+1) rfl ([Value.string pl,.slice rd l.length rc,.map (some gm),.map (some hm)]++U).toArray (congrArg Value.agg (Q7 _ _ _ _ Fg)) _ cur cM (by simp[Fg,bH]) ((show(Tryz.prog.info? 107).map (·.size)=some 36 by kernel_rfl).trans (congrArg some (Sa _ _ _ _).symm)) (by intro v hv;simp at hv;rcases hv with rfl | rfl | rfl | rfl | hv;rfl;rfl;rfl;rfl;exact Ts v hv) ?_))
 obtain⟨T,s,Q,e1,e2,e3,e4,e5,e6⟩:=HE.out
 have hk:Kb [w.heap.size+1+1] w2 (w2.setRow (w.heap.size+1+1) (([Value.string pl,.slice rd l.length rc,.map (some gm),.map (some hm)]++U).toArray)):=Kb.setRow _ _ _
 refine bodyPost_ret (v:=.tuple #[.agg ([Value.string pl,.slice rd l.length rc,.map (some gm),.map (some hm)]++U).toArray,.bool true]) ?_ rfl ⟨hm,T,s,Q,by rw[←hU];rfl,e1,e2,e3,e4.kept hk (fun b hb=>by have:=e6 b hb;simp;omega),e5,fun b hb=>by have:=e6 b hb;omega,hk.aK Wf.out.aZ Wf.out.aZ.size (by simp;omega)⟩
 refine Eq.trans (cQ rfl _ _ _ _ _ _ _ rfl (bt w2 _ _ cM) Tryz.underlying107 rfl ((show(Tryz.prog.info? 107).map (·.size)=some 36 by kernel_rfl).trans (congrArg some (Sa _ _ _ _).symm))) ?_
 rfl
end
/- axiomkeep.all: the list as it grows. -/
section
open Go.RowKit
def pB(p a b:Nat):ByteArray×List ByteArray:=if p=0 then (Ax.cu 0,[Ax.cf a])else (Ax.cu p,[Ax.cf a,Ax.cf b])
def be(i:Nat):ByteArray×List ByteArray:=if i<4 then pB 0 i 0 else if i<20 then pB 1 ((i-4)/4) ((i-4)%4)else pB 2 ((i-20)/4) ((i-20)%4)
theorem W4{a:Nat}(h:a<4)(b:Nat):be a=pB 0 a b:=by unfold be;rw[if_pos h];rfl
theorem XG{p a b:Nat}(hp:p=1∨p=2)(ha:a<4)(hb:b<4):be (4+16*(p-1)+4*a+b)=pB p a b:=by
 unfold be
 rcases hp with rfl | rfl
 · rw[if_neg (by omega),if_pos (by omega),show(4+16*(1-1)+4*a+b-4)/4=a by omega,show(4+16*(1-1)+4*a+b-4)%4=b by omega]
 · rw[if_neg (by omega),if_neg (by omega),show(4+16*(2-1)+4*a+b-20)/4=a by omega,show(4+16*(2-1)+4*a+b-20)%4=b by omega]
theorem np(l:List FI)(f:FI):dC (l++[f])=dC l++[.string f.pred,f.av]:=by simp[dC]
structure iT(w wr:World)(a:Value)(n:Nat)(l:List FI):Prop where
 row:wr.ownsRow w.heap.size 48 2 a l.length (dC l)
 each:∀f,f∈l→wr.ownsRow w.heap.size 9 1 f.av f.args.length (strCells f.args)
 data:l.map (fun f=>(f.pred,f.args))=(List.range n).map be
 aZ:Below w.heap.size w wr
theorem iT.len{w wr:World}{a:Value}{n:Nat}{l:List FI}(h:iT w wr a n l):l.length=n:=by
 have:=congrArg List.length h.data
 simpa using this
theorem iT.below{w wr w':World}{a:Value}{n:Nat}{l:List FI}(h:iT w wr a n l)(hb:Below wr.heap.size wr w'):iT w w' a n l:=
 ⟨ae h.row hb,fun f hf=>ae (h.each f hf) hb,h.data,h.aZ.trans (hb.mono h.aZ.size)⟩
theorem iT.nil(w:World):iT w w (.slice none 0 0) 0 []:=⟨World.ownsRow_nil _ _ _ _,by simp,rfl,Below.refl _ _⟩
theorem iT.step{w wr w2:World}{a v2:Value}{n:Nat}{l:List FI}(h:iT w wr a n l){pd:ByteArray}{args:List ByteArray}(hd:be n=(pd,args))(LB:0<args.length)(ha9:args.length≤1000)
 (al:w2.ownsRow w.heap.size 48 2 v2 (l.length+1) (dC l++[.string pd,.slice (some ⟨wr.heap.size,0,none⟩) args.length args.length]))
 (hg:((wr.alloc (.cells (strCells args).toArray 9)).alloc (.cells #[.string pd,.slice (some ⟨wr.heap.size,0,none⟩) args.length args.length] 48)).grownBy w2 a.ownBlock):
 iT w w2 v2 (n+1) (l++[⟨pd,args,.slice (some ⟨wr.heap.size,0,none⟩) args.length args.length⟩]):=by
 have hs:=h.aZ.size
 have cM:Below wr.heap.size wr ((wr.alloc (.cells (strCells args).toArray 9)).alloc (.cells #[.string pd,.slice (some ⟨wr.heap.size,0,none⟩) args.length args.length] 48)):=((Below.refl _ _).alloc (Nat.le_refl _) _).alloc (by simp) _
 have hk:=Kb.dz hg
 have aE:∀q,a.ownBlock=some q→w.heap.size≤q∧q<wr.heap.size:=fun q hq=>h.row.lt q hq
 have Nr:((wr.alloc (.cells (strCells args).toArray 9)).alloc (.cells #[.string pd,.slice (some ⟨wr.heap.size,0,none⟩) args.length args.length] 48)).ownsRow w.heap.size 9 1 (.slice (some ⟨wr.heap.size,0,none⟩) args.length args.length) args.length (strCells args):=by
  refine World.ownsRow.alloc ?_ _
  have hl:(strCells args).length=args.length:=by simp[strCells]
  exact sG hl ha9 hs
 refine⟨?_, ?_, ?_, ?_⟩
 · rw[np,List.length_append]
   exact al
 · intro f hf
   rcases List.mem_append.1 hf with hf | hf
   · refine hk.row (ae (h.each f hf) cM) (fun b hb hc=> ?_)
     rw[Option.mem_toList]at hc
     obtain⟨c1,e1⟩:=aH (h.each f hf) hb
     obtain⟨c2,e2⟩:=aH h.row hc
     rw[e1]at e2
     simp at e2
   · simp only[List.mem_singleton]at hf
     subst hf
     refine hk.row Nr (fun b hb hc=> ?_)
     rw[Option.mem_toList]at hc
     have:=(aE b hc).2
     simp[Value.ownBlock]at hb
     omega
 · rw[List.map_append,h.data,List.range_succ,List.map_append]
   simp[hd]
 · exact hk.aK (h.aZ.trans (cM.mono hs)) (by simp;omega) (fun q hq=>by rw[Option.mem_toList]at hq;exact(aE q hq).1)
end
/- What is given to axiomkeep's engine, told by the 36 facts, and what its search gives. No program here. -/
section
open Go.RowKit
theorem kS(i:Nat):En.uF i=((be i).1,Tb.eu (be i).2):=by
 unfold En.uF be
 split
 · rfl
 · split<;>rfl
def jL:List Pd.Pr:=[(Ax.cu 0,1),(Ax.cu 1,2),(Ax.cu 2,2)]
theorem IC:Pd.One jL:=by
 unfold Pd.One jL
 decide
theorem P5{p:Nat}{ts:List Nat}(h:Ax.gM p ts):(Ax.cu p,ts.length)∈jL:=by
 obtain⟨h1,h2⟩:=h
 rw[h2]
 have:p=0∨p=1∨p=2:=by omega
 rcases this with rfl | rfl | rfl<;>simp[jL]
def MD(R:List Ax.ER):List Pd.Pr:=R.flatMap fun r=>(r.1::r.2).map fun a=>(a.1,a.2.length)
theorem EP:∀rs:List Ax.br,bP rs=MD (rs.map Ax.kX)
 | []=>rfl
 | r::rs=>by
  have ih:=EP rs
  unfold bP MD at ih ⊢
  rw[List.flatMap_cons,List.map_append,ih,List.map_cons,List.flatMap_cons]
  congr 1
  simp[Ax.br.atoms,Ax.kX,Ax.Ct,pC,Function.comp_def]
theorem dW{rs:List Ax.br}{kl:List Ax.ay}(he:rs.map Ax.kX=Ax.gR kl)(p:Pd.Pr):p∈bP rs↔p∈jL:=by
 rw[EP,he]
 unfold MD
 rw[List.mem_flatMap]
 constructor
 · rintro⟨r,hr,hp⟩
   obtain⟨a,ha,rfl⟩:=List.mem_map.1 hp
   obtain⟨⟨q,ts,e,hk⟩,h2,_⟩:=Ax.oc kl r hr
   have:∃q ts,a=Ax.jH q ts∧Ax.gM q ts:=by
    rcases List.mem_cons.1 ha with rfl | ha
    · exact⟨q,ts,e,hk⟩
    · exact h2 a ha
   obtain⟨q,ts,rfl,hk⟩:=this
   have:=P5 hk
   simpa [Ax.jH]using this
 · intro hp
   have m0:(Ax.jH 0 [0],[Ax.jH 0 [0],Ax.jH 1 [0,0]])∈Ax.gR kl:=by simp[Ax.gR,Ax.ls]
   have m1:(Ax.jH 0 [0],[Ax.jH 0 [0],Ax.jH 2 [0,0]])∈Ax.gR kl:=by simp[Ax.gR,Ax.ls]
   simp only[jL,List.mem_cons,List.not_mem_nil,or_false]at hp
   rcases hp with rfl | rfl | rfl
   · exact⟨_,m0,by simp[Ax.jH]⟩
   · exact⟨_,m0,by simp[Ax.jH]⟩
   · exact⟨_,m1,by simp[Ax.jH]⟩
theorem nE{rs:List Ax.br}{kl:List Ax.ay}(he:rs.map Ax.kX=Ax.gR kl):Pd.One (bP rs):=fun a ha b hb e=>IC a ((dW he a).1 ha) b ((dW he b).1 hb) e
theorem dP:∀p,p∈jL→p.1.size≤3:=by unfold jL;decide
theorem kO{i:Nat}(h:i<36):((be i).1,(be i).2.length)∈jL:=by
 unfold be
 split
 · simp[pB,jL]
 · split<;>simp[pB,jL]
theorem iD(i:Nat):∀a,a∈(be i).2→Ax.mR a=true∧a.size≤2:=by
 have h1:∀n,Ax.mR (Ax.cf n)=true:=by
  intro n
  unfold Ax.cf
  split<;>decide
 have key:∀p x y,∀a,a∈(pB p x y).2→Ax.mR a=true∧a.size≤2:=by
  intro p x y a ha
  unfold pB at ha
  split at ha
  · simp only[List.mem_cons,List.not_mem_nil,or_false]at ha
    subst ha
    exact⟨h1 _,Ax.rE _⟩
  · simp only[List.mem_cons,List.not_mem_nil,or_false]at ha
    rcases ha with rfl | rfl
    · exact⟨h1 _,Ax.rE _⟩
    · exact⟨h1 _,Ax.rE _⟩
 unfold be
 split
 · exact key _ _ _
 · split<;>exact key _ _ _
structure fV(G:List GT)(gv:Nat→Bool):Prop where
 ny:∀p,p∈G.map tX↔p∈jL
 rows:∀t,t∈G→∀r,r∈t.L↔∃i,i<36∧gv i=true∧En.uF i=(t.nm,r)
theorem fV.perm{G N:List GT}{gv:Nat→Bool}(h:fV G gv)(hp:(N.map jZ).Perm (G.map jZ)):fV N gv:=by
 have hm:∀d,d∈N.map jZ↔d∈G.map jZ:=fun d=>hp.mem_iff
 refine⟨?_, ?_⟩
 · intro p
   rw[←h.ny p]
   have e:∀X:List GT,X.map tX=(X.map jZ).map fun d=>(d.1,d.2.1):=fun X=>by simp[jZ,tX,Function.comp_def]
   rw[e,e,List.mem_map,List.mem_map]
   constructor
   · rintro⟨d,hd,rfl⟩;exact⟨d,(hm d).1 hd,rfl⟩
   · rintro⟨d,hd,rfl⟩;exact⟨d,(hm d).2 hd,rfl⟩
 · intro t ht r
   obtain⟨u,hu,e⟩:=List.mem_map.1 ((hm _).1 (List.mem_map_of_mem ht))
   simp only[jZ,Prod.mk.injEq]at e
   rw[←e.2.2,←e.1]
   exact h.rows u hu r
theorem fV.has{G:List GT}{gv:Nat→Bool}(h:fV G gv){p:ByteArray}{n:Nat}(hp:(p,n)∈jL):∃t,t∈G∧t.nm=p∧t.pl=n:=by
 obtain⟨t,ht,e⟩:=List.mem_map.1 ((h.ny _).2 hp)
 simp only[tX,Prod.mk.injEq]at e
 exact⟨t,ht,e⟩
theorem fV.len{G:List GT}{gv:Nat→Bool}(h:fV G gv)(hn:(G.map GT.nm).Nodup):G.length≤3:=by
 have hs:G.map GT.nm ⊆ jL.map Prod.fst:=by
  intro x hx
  obtain⟨t,ht,rfl⟩:=List.mem_map.1 hx
  exact List.mem_map.2 ⟨tX t,(h.ny _).1 (List.mem_map_of_mem ht),rfl⟩
 have:=List.Nodup.length_le_of_subset hn hs
 simpa [jL]using this
theorem Lg{L:List (List ByteArray)}(h:Tb.Ord L):L.Nodup:=List.Pairwise.imp (fun {a b} pD e=>by subst e;rw[Tb.oo]at pD;omega) h
theorem JJ(G:List GT):mS G=(G.flatMap fun t=>t.L.map fun r=>(t.nm,r)).length:=by
 induction G with
 | nil=>rfl
 | cons t G ih=>
  unfold mS at ih ⊢
  rw[List.map_cons,List.sum_cons,List.flatMap_cons,List.length_append,ih,List.length_map]
theorem fV.sum{G:List GT}{gv:Nat→Bool}(h:fV G gv)(hn:(G.map GT.nm).Nodup)(ho:∀t,t∈G→Tb.Ord t.L):mS G≤36:=by
 rw[JJ]
 have C6:(G.flatMap fun t=>t.L.map fun r=>(t.nm,r)).Nodup:=by
  unfold List.Nodup
  rw[List.pairwise_flatMap]
  refine⟨?_, ?_⟩
  · intro t ht
    have:=Lg (ho t ht)
    rw[List.pairwise_map]
    exact List.Pairwise.imp (fun {a b} pD e=>pD (by simpa using e)) this
  · have Bt:G.Pairwise fun a b=>a.nm≠b.nm:=List.pairwise_map.1 hn
    refine List.Pairwise.imp ?_ Bt
    intro a b pD x hx y hy e
    obtain⟨r,_,rfl⟩:=List.mem_map.1 hx
    obtain⟨q,_,rfl⟩:=List.mem_map.1 hy
    exact pD (by simpa using(congrArg Prod.fst e))
 have hs:(G.flatMap fun t=>t.L.map fun r=>(t.nm,r)) ⊆ (List.range 36).map En.uF:=by
  intro x hx
  obtain⟨t,ht,hx⟩:=List.mem_flatMap.1 hx
  obtain⟨r,hr,rfl⟩:=List.mem_map.1 hx
  obtain⟨i,hi,_,e⟩:=(h.rows t ht r).1 hr
  exact List.mem_map.2 ⟨i,by simpa using hi,e⟩
 have:=List.Nodup.length_le_of_subset C6 hs
 simpa using this
theorem fV.dm{G:List GT}{gv:Nat→Bool}(h:fV G gv)(hn:(G.map GT.nm).Nodup){Q:List Pd.Pr}(hQ:∀p,p∈Q↔p∈jL)(f:En.cl):f∈dm Q G↔En.gF gv f:=by
 unfold Go.Proofs.YtdmicblafmhflaaGreatDoor.dm En.gF
 rw[List.mem_flatMap]
 constructor
 · rintro⟨p,hp,hf⟩
   obtain⟨r,hr,rfl⟩:=List.mem_map.1 hf
   obtain⟨t,ht,e,_⟩:=h.has (p:=p.1) (n:=p.2) ((hQ p).1 hp)
   rw[←e,qF hn ht]at hr
   obtain⟨i,hi,hg,e2⟩:=(h.rows t ht r).1 hr
   exact⟨i,hi,hg,by rw[e2,e]⟩
 · rintro⟨i,hi,hg,rfl⟩
   have hp:=kO hi
   obtain⟨t,ht,e,_⟩:=h.has hp
   refine⟨_,(hQ _).2 hp,List.mem_map.2 ⟨Tb.eu (be i).2, ?_,(kS i).symm⟩⟩
   show Tb.eu (be i).2∈rowsOf G (be i).1
   rw[←e,qF hn ht]
   exact(h.rows t ht _).2 ⟨i,hi,hg,by rw[kS,e]⟩
theorem oM{rs:List Ax.br}{kl:List Ax.ay}(he:rs.map Ax.kX=Ax.gR kl){G:List GT}{gv:Nat→Bool}(h:fV G gv)(hn:(G.map GT.nm).Nodup){Q:List Pd.Pr}(hQ:∀p,p∈Q↔p∈bP rs):
 ∃s,fi rs (dm Q G)=some s∧En.Inv (En.sR (En.aj kl)) (En.gF gv) s s.found.length:=by
 have WG:rs.map En.cT=En.sR (En.aj kl):=En.GP he
 have dD:=En.th kl
 have hi:=En.Ja (rs.map En.cT) (by rw[WG];exact En.Bv dD) (Go.Proofs.YtdmicblafmhflaaGreatDoor.dm Q G)
 have nK:(fun f=>f∈Go.Proofs.YtdmicblafmhflaaGreatDoor.dm Q G)=En.gF gv:=funext fun f=>propext (h.dm hn (fun p=>(hQ p).trans (dW he p)) f)
 rw[nK,←En.tM,WG]at hi
 obtain⟨s,hs⟩:=En.DF dD hi 202 (by omega)
 refine⟨s, ?_,En.yz (En.Bv dD) 202 0 _ s hi (Nat.zero_le _) hs⟩
 unfold fi mstart
 rw[WG]
 exact hs
def gA(gv:Nat→Bool)(i:Nat)(b:Bool):Nat→Bool:=fun j=>if j=i then b else gv j
end
/- Engine.row. -/
section
open Go.RowKit Go.Maps Go.WideMaps Go.WideElems
theorem ks.TK{w:World}{mb:Nat}{m:List (ByteArray×Nat)}(h:ks w mb m){p:ByteArray}{g:Nat}(hl:Ax.look m p=some g)(hp:p.size≤1000000){t e:TypeId}(ht:Tryz.prog.underlying t=some (.map 9 e))(hz:(zeroValue e).run Tryz.prog w=.ok (.pointer none) w):
 (Instr.lookup t (.map (some mb)) (.string p) true).run Tryz.prog w=.ok (.tuple #[.pointer (some ⟨g,0,none⟩),.bool true]) w:=by
 obtain⟨n,D,al,hn,hD⟩:=h.has
 obtain⟨v,ps,Mr,hv⟩:=al.look_ok Tryz.gq ht hz (zd:=.lit (.int .i64 (-1))) (zp:=[]) rfl (key:=.string p) (kl:=aY p) (keyOf_string_mk Tryz.underlying9 (by unfold maxLen;omega))
 rw[(hD p).2 g hl]at hv
 have hh:=(hD p).1
 rw[hl]at hh
 rw[Mr,oI hv,hh]
 rfl
theorem Ps(w:World)(eg hm g pl:Nat)(m:List (ByteArray×Nat))(p:ByteArray)(names:List ByteArray)(av:Value)(vm:w.cell? ⟨eg,3,none⟩=some (.map (some hm)))(hM:ks w hm m)(hl:Ax.look m p=some g)(hp:p.size≤1000000)
 (hc:w.cell? ⟨g,1,none⟩=some (.int .i64 pl))(hv:w.ownsRow 0 9 1 av names.length (strCells names))(hlen:names.length=pl)(h3:names.length≤3)(hn:∀a,a∈names→Ax.mR a=true)(hs:∀a,a∈names→a.size≤1000)(hT:eW w):
 Calls Tryz.prog 41 #[.pointer (some ⟨eg,0,none⟩),.agg #[.string p,av]] w fun e w'=>e=.returned (.tuple #[.agg (Tb.fA names),.bool true])∧Below w.heap.size w w':=by
 subst hlen
 obtain⟨ad,ac,zv⟩:=ah hv
 subst zv
 obtain⟨w0,cZ⟩:∃w0,w0=(w.alloc (.cells #[.string p,.slice ad names.length ac] 48)).alloc (.cells #[.string ⟨#[]⟩,.string ⟨#[]⟩,.string ⟨#[]⟩] 119):=⟨_,rfl⟩
 have bL:Below w.heap.size w w0:=by rw[cZ];exact((Below.refl _ _).alloc (Nat.le_refl _) _).alloc (by simp) _
 have mN:w0.heap[w.heap.size]?=some (.cells #[.string p,.slice ad names.length ac] 48 (0,0)):=by rw[cZ,Below.heap_alloc _ _ _ (by simp)];exact heap_alloc_new w _
 have fy:w0.heap[w.heap.size+1]?=some (.cells #[.string ⟨#[]⟩,.string ⟨#[]⟩,.string ⟨#[]⟩] 119 (0,0)):=by rw[cZ];exact qv w _ _
 have t0:w0.cell? ⟨w.heap.size,0,none⟩=some (.string p):=by rw[cell_of_row _ _ _ _ _ _ mN];rfl
 have t1:w0.cell? ⟨w.heap.size,1,none⟩=some (.slice ad names.length ac):=by rw[cell_of_row _ _ _ _ _ _ mN];rfl
 have e3:w0.cell? ⟨eg,3,none⟩=some (.map (some hm)):=by rw[bL.cell (block_lt_of_cell vm)];exact vm
 have nU:∀W:World,Below w.heap.size w W→(Instr.lookup 103 (.map (some hm)) (.string p) true).run Tryz.prog W=.ok (.tuple #[.pointer (some ⟨g,0,none⟩),.bool true]) W:=fun W hW=>(hM.below hW).TK hl hp Tryz.underlying103 (Tryz.zeroValue97 W)
 have ahm:=nU w0.drew bL.drew
 have Ly:Hid (∀W,Below w0.heap.size w0 W→Calls Tryz.prog 74 #[.pointer (some ⟨g,0,none⟩),.slice ad names.length ac] W fun e w5=>e=.returned (.tuple #[.agg (Tb.fA names),.bool true])∧Hid (Below w.heap.size w w5∧w5.heap[w.heap.size+1]?=some (.cells #[.string ⟨#[]⟩,.string ⟨#[]⟩,.string ⟨#[]⟩] 119 (0,0)))∧w5.cell? ⟨w.heap.size,1,none⟩=some (.slice ad names.length ac)∧
  (∀o,o<3→(w5.cell? ⟨w.heap.size+1,o,none⟩)=some (.string ⟨#[]⟩))∧∀o,w5.frozen? ⟨w.heap.size+1,o,none⟩=false):=by
  intro W hW
  have qL:Below w.heap.size w W:=bL.trans (hW.mono bL.size)
  refine(IJ W g names.length names _ (by rw[qL.cell (block_lt_of_cell hc)];exact hc) (ae hv qL) rfl h3 hn hs (Utf8Tabs_below hT qL)).mono ?_
  rintro e w5 ⟨rfl,hb⟩
  have la:Below w0.heap.size w0 w5:=hW.trans (hb.mono hW.size)
  have h5:w5.heap[w.heap.size+1]?=some (.cells #[.string ⟨#[]⟩,.string ⟨#[]⟩,.string ⟨#[]⟩] 119 (0,0)):=by rw[la.block _ (lt_of_heap fy)];exact fy
  refine⟨rfl,⟨bL.trans (la.mono bL.size),h5⟩,by rw[la.cell (block_lt_of_cell t1)];exact t1, ?_, ?_⟩
  · intro o ho
    rw[cell_of_row _ _ _ _ _ _ h5]
    match o,ho with
    | 0,_=>rfl
    | 1,_=>rfl
    | 2,_=>rfl
  · intro o
    simp[World.frozen?,h5]
 have Pc:=block_lt_of_cell vm
 have mO:=block_lt_of_cell hc
 have bQ:Tb.fA names=#[.string (Tb.ef names 0),.string (Tb.ef names 1),.string (Tb.ef names 2)]:=rfl
 rw[bQ]at Ly ⊢
 generalize Tb.ef names 0=x0 at Ly ⊢
 generalize Tb.ef names 1=x1 at Ly ⊢
 generalize Tb.ef names 2=x2 at Ly ⊢
 clear nU hM hv hn hs hT vm hc mN bQ fy
 go_enter Tryz.func41,Tryz.ntmps41
 go_wp2_with fail
 rw[←cZ]
 clear cZ
 go_region
 go_wp2_with fail
 go_region_held3 (fun w'=>w'.cell? ⟨w.heap.size,1,none⟩=some (.slice ad names.length ac)) (go_keep) ((go_at_call 74;refine(Ly.out _ (by exact(Below.refl _ _).drew.drew)).mono ?_;rintro e w5 ⟨rfl,UH,d1,dc,df⟩;have d00:=dc 0 (by omega);have d01:=dc 1 (by omega);have d02:=dc 2 (by omega);have df0:=df 0;have df1:=df 1;have df2:=df 2))
 all_goals
  go_wp2_with fail
  refine bodyPost_ret (v:=.tuple #[.agg #[.string x0,.string x1,.string x2],.bool true]) ?_ rfl ⟨rfl,((UH.out.1.setCell (p:=⟨w.heap.size+1,0,none⟩) (by simp) _).setCell (p:=⟨w.heap.size+1,1,none⟩) (by simp) _).setCell (p:=⟨w.heap.size+1,2,none⟩) (by simp) _⟩
  refine Eq.trans (cQ rfl _ _ _ _ _ _ _ rfl (Cl UH.out.2 _ _ _) Tryz.underlying119 rfl (by kernel_rfl)) ?_
  rfl
end
/- Engine.Ask. -/
section
open Go.RowKit Go.Maps
theorem EG(names:List ByteArray):Tb.fA names=#[.string (Tb.ef names 0),.string (Tb.ef names 1),.string (Tb.ef names 2)]:=rfl
end
/- An engine as it lies; what New's steps keep. -/
section
open Go.RowKit Go.Maps
def bE(pl:ByteArray)(rv:Value)(gm hm:Nat)(hd:List UInt8)(lv:Value):Array Value:=([Value.string pl,rv,.map (some gm),.map (some hm)]++Rc.bA hd++[lv]).toArray
structure nQ(w:World)(B eg:Nat)(kl:List Ax.ay)(gv:Nat→Bool)(n:Nat):Prop where
 at_:∃pl rd rc l gm G hm T s hd lv ln lx,w.heap[eg]?=some (.cells (bE pl (.slice rd (List.length l) rc) gm hm hd lv) 109 (0,0))∧
  aI w rd rc l∧(l.map MR.aw).map Ax.kX=Ax.gR kl∧lB w gm G∧fV G gv∧pG w hm T s∧En.Inv (En.sR (En.aj kl)) (En.gF gv) s s.found.length∧(∀p,p∈T.map ig↔p∈jL)∧
  hd.length=32∧w.ownsRow B 5 1 lv ln lx∧ln≤1000*n∧pl=Ax.au kl
 ge:B≤eg
theorem fg{w:World}{a b:Nat}{x y:Array Value}{s t:TypeId}{f g:Nat×Nat}(ha:w.heap[a]?=some (.cells x s f))(hb:w.heap[b]?=some (.cells y t g))(h:s≠t):a≠b:=fun e=>by
 rw[e,hb]at ha
 simp at ha
 exact h ha.2.1.symm
theorem lB.kU{w:World}{gm:Nat}{G:List GT}(h:lB w gm G){x:Nat}{Z:Array Value}{t:TypeId}{f:Nat×Nat}(hx:w.heap[x]?=some (.cells Z t f))(h1:t≠125)(h2:t≠119):∀b,b∈eV gm G→¬b∈[x]:=by
 intro b hb e
 simp only[List.mem_cons,List.not_mem_nil,or_false]at e
 subst e
 unfold eV at hb
 rcases List.mem_cons.1 hb with rfl | hb
 · obtain⟨es,ck,e⟩:=h.map.block
   rw[e]at hx
   cases hx
 · obtain⟨u,hu,hb⟩:=List.mem_flatMap.1 hb
   obtain⟨cur,T,e,hT⟩:=(h.b7 u hu).types hb
   rw[e]at hx
   simp at hx
   rcases hT with rfl | rfl
   · exact h1 hx.2.1.symm
   · exact h2 hx.2.1.symm
structure NI(w1:World)(g:Nat)(pl:ByteArray)(rv:Value)(ny:List Pd.Pr)(b:Option Nat)(q:Option (Option Addr×List Pd.Pr×Nat))(m:Option (Nat×List GT))(W:World):Prop where
 aZ:Below w1.heap.size w1 W
 gl:g<w1.heap.size
 c0:W.cell? ⟨g,0,none⟩=some (.string pl)
 c1:W.cell? ⟨g,1,none⟩=some rv
 cU:∀x,b=some x→w1.heap.size≤x∧∃Z,W.heap[x]?=some (.cells Z 107 (0,0))∧Z.size=36
 row:∀qd Q qc,q=some (qd,Q,qc)→W.ownsRow 0 112 2 (.slice qd Q.length qc) Q.length (aB Q)∧Pd.vF Q∧∀p,p∈Q↔p∈ny
 Na:∀gm G,m=some (gm,G)→lB W gm G∧fV G (fun _=>false)
theorem NI.below{w1 W w':World}{g:Nat}{pl:ByteArray}{rv:Value}{ny:List Pd.Pr}{b:Option Nat}{q:Option (Option Addr×List Pd.Pr×Nat)}{m:Option (Nat×List GT)}(h:NI w1 g pl rv ny b q m W)(hb:Below W.heap.size W w'):NI w1 g pl rv ny b q m w':=by
 have mO:g<W.heap.size:=Nat.lt_of_lt_of_le h.gl h.aZ.size
 refine⟨h.aZ.trans (hb.mono h.aZ.size),h.gl,by rw[hb.cell mO];exact h.c0,by rw[hb.cell mO];exact h.c1, ?_, ?_, ?_⟩
 · intro x hx
   obtain⟨h1,Z,h2,h3⟩:=h.cU x hx
   exact⟨h1,Z,by rw[hb.block _ (lt_of_heap h2)];exact h2,h3⟩
 · intro qd Q qc hq
   obtain⟨h1,h2⟩:=h.row qd Q qc hq
   exact⟨ae h1 hb,h2⟩
 · intro gm G hm
   obtain⟨h1,h2⟩:=h.Na gm G hm
   exact⟨h1.below hb,h2⟩
theorem NI.drew{w1 W:World}{g:Nat}{pl:ByteArray}{rv:Value}{ny:List Pd.Pr}{b:Option Nat}{q:Option (Option Addr×List Pd.Pr×Nat)}{m:Option (Nat×List GT)}(h:NI w1 g pl rv ny b q m W):NI w1 g pl rv ny b q m W.drew:=h.below (Below.refl _ _).drew
theorem NI.alloc{w1 W:World}{g:Nat}{pl:ByteArray}{rv:Value}{ny:List Pd.Pr}{q:Option (Option Addr×List Pd.Pr×Nat)}{m:Option (Nat×List GT)}{Z:Array Value}(h:NI w1 g pl rv ny none q m W)(hz:Z.size=36):NI w1 g pl rv ny (some W.heap.size) q m (W.alloc (.cells Z 107)):=by
 have h2:=h.below (w':=W.alloc (.cells Z 107)) ((Below.refl _ _).alloc (Nat.le_refl _) _)
 refine⟨h2.aZ,h2.gl,h2.c0,h2.c1, ?_,h2.row,h2.Na⟩
 intro x hx
 simp only[Option.some.injEq]at hx
 subst hx
 exact⟨h.aZ.size,Z,heap_alloc_new _ _,hz⟩
theorem NI.cells{w1 W:World}{g:Nat}{pl:ByteArray}{rv:Value}{ny:List Pd.Pr}{b:Option Nat}{q:Option (Option Addr×List Pd.Pr×Nat)}{m:Option (Nat×List GT)}(h:NI w1 g pl rv ny b q m W):W.cell? ⟨g,0,none⟩=some (.string pl)∧W.cell? ⟨g,1,none⟩=some rv:=⟨h.c0,h.c1⟩
theorem NI.stored{w1 W:World}{g x:Nat}{pl:ByteArray}{rv:Value}{ny:List Pd.Pr}{q:Option (Option Addr×List Pd.Pr×Nat)}{m:Option (Nat×List GT)}{cs:Array Value}(h:NI w1 g pl rv ny (some x) q m W)(hc:cs.size=36):NI w1 g pl rv ny (some x) q m (W.setCells x 0 cs.toList):=by
 obtain⟨h1,Z,h2,h3⟩:=h.cU x rfl
 obtain⟨hh,hk⟩:=bX x cs.toList 0 Z W h2 (by simp;omega)
 have hh:(W.setCells x 0 cs.toList).heap[x]?=some (.cells cs 107 (0,0)):=by
  rw[hh,List.drop_eq_nil_of_le (by simp;omega)]
  simp
 have Kh:g≠x:=by have:=h.gl;omega
 have hg:(W.setCells x 0 cs.toList).heap[g]?=W.heap[g]?:=hk.block g (Nat.lt_of_lt_of_le h.gl h.aZ.size) (by simpa using Kh)
 refine⟨hk.aK h.aZ h.aZ.size (by simpa using h1),h.gl, ?_, ?_, ?_, ?_, ?_⟩
 · rw[←h.c0];simp only[World.cell?,hg]
 · rw[←h.c1];simp only[World.cell?,hg]
 · intro y hy
   simp only[Option.some.injEq]at hy
   subst hy
   exact⟨h1,cs,hh,hc⟩
 · intro qd Q qc hq
   obtain⟨k1,k2⟩:=h.row qd Q qc hq
   exact⟨hk.dQ k1 (fun b cur fz hb e=>by simp at hb;subst hb;rw[h2]at e;simp at e),k2⟩
 · intro gm G hm
   obtain⟨k1,k2⟩:=h.Na gm G hm
   exact⟨k1.kept hk (k1.kU h2 (by decide) (by decide)),k2⟩
theorem fI{W:World}{x:Nat}{Z cs:Array Value}(h2:W.heap[x]?=some (.cells Z 107 (0,0)))(hz:Z.size=36)(hc:cs.size=36):(W.setCells x 0 cs.toList).heap[x]?=some (.cells cs 107 (0,0)):=by
 obtain⟨hh,hk⟩:=bX x cs.toList 0 Z W h2 (by simp;omega)
 rw[hh,List.drop_eq_nil_of_le (by simp;omega)]
 simp
theorem cN{W:World}{x:Nat}{Z cs:Array Value}(h:W.heap[x]?=some (.cells Z 107 (0,0)))(hz:Z.size=36)(hc:cs.size=36)(h1:∀v,v∈cs.toList→v.oneCell'=true):(storeCells ⟨x,0,none⟩ cs.toList).run Tryz.prog W=.ok () (W.setCells x 0 cs.toList):=by
 have hx:∀j,j<cs.toList.length→(W.cell? ⟨x,0+0+j,none⟩).isSome=true:=by
  intro j hj
  rw[cell_of_row _ _ _ _ _ _ h,Nat.zero_add,Array.getElem?_eq_getElem (by simp at hj;omega)]
  rfl
 exact run_storeCells_cells (P:=Tryz.prog) x 0 cs.toList 0 W hx (fun j hj=>by simp[World.frozen?,h]) h1
def u6(cs:Array Value)(b:Option Nat)(w':World):Prop:=match b with
 | some x=>(storeCells ⟨x,0,none⟩ cs.toList).run Tryz.prog w'=.ok () (w'.setCells x 0 cs.toList)
 | none=>∀Z:Array Value,Z.size=36→(storeCells ⟨w'.heap.size,0,none⟩ cs.toList).run Tryz.prog (w'.alloc (.cells Z 107))=.ok () ((w'.alloc (.cells Z 107)).setCells w'.heap.size 0 cs.toList)
theorem R4{w1 W:World}{g:Nat}{pl:ByteArray}{rv:Value}{ny:List Pd.Pr}{b:Option Nat}{q:Option (Option Addr×List Pd.Pr×Nat)}{m:Option (Nat×List GT)}{cs:Array Value}(h:NI w1 g pl rv ny b q m W)(hc:cs.size=36)(h1:∀v,v∈cs.toList→v.oneCell'=true):u6 cs b W:=by
 cases b with
 | some x=>
  obtain⟨_,Z,h2,h3⟩:=h.cU x rfl
  exact cN h2 h3 hc h1
 | none=>
  intro Z hZ
  exact cN (heap_alloc_new _ _) hZ hc h1
end
end Go.Proofs.YtdmicblafmhflaaGreatDoor
