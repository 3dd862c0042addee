/- state.Make. -/
import Derived.Test.YtdmicblafmhflaaGreatDoorC24
import Derived.Test.YtdmicblafmhflaaGreatDoorC29
import Derived.Test.YtdmicblafmhflaaGreatDoorC32
import Derived.Test.YtdmicblafmhflaaGreatDoorC10
import Derived.Test.YtdmicblafmhflaaGreatDoorC14
import Derived.Test.YtdmicblafmhflaaGreatDoorC27
import Derived.Maps.OwnSet
set_option linter.unusedSimpArgs false
set_option linter.unusedVariables false
set_option maxHeartbeats 2000000
set_option maxRecDepth 100000
namespace Go.Proofs.YtdmicblafmhflaaGreatDoor
section
open Go.RowKit Go.Maps
theorem lu.toG{w w':World}{mb:Nat}{G N:List GT}(h:lu w w' mb G [] N)(hs:∀t,t∈G→t.nm.size≤1000000)(hn:(G.map GT.nm).Nodup)(hl:G.length≤1000):kY w' mb N∧(N.map j9).Perm (G.map j9):=by
 have hp:(N.map j9).Perm (G.map j9):=by simpa using h.data
 have iJ:(N.map GT.nm).Perm (G.map GT.nm):=by
  have:=hp.map Prod.fst
  simpa [List.map_map,Function.comp_def,j9]using this
 obtain⟨D,ho,hD⟩:=h.map
 refine⟨⟨ks.of ho (by have:=h.Cf;omega) hD,fun t ht=>(h.bR t ht).1,h.apart,iJ.nodup_iff.2 hn,fun t ht=> ?_⟩,hp⟩
 have:t.nm∈G.map GT.nm:=iJ.mem_iff.1 (List.mem_map_of_mem ht)
 obtain⟨u,hu,e⟩:=List.mem_map.1 this
 rw[←e]
 exact hs u hu
def aL(pl:ByteArray)(rv:Value)(gm hm:Nat)(hd:List UInt8):Array Value:=([Value.string pl,rv,.map (some gm),.map (some hm)]++Rc.bP hd).toArray
theorem rr(o:Nat):∀(U:List Value) (k:Nat) (cur:Array Value),o+k+U.length≤cur.size→
 (U.zipIdx k).foldl (fun cs x=>cs.setIfInBounds (o+x.snd) x.fst) cur=(cur.toList.take (o+k)++U++cur.toList.drop (o+k+U.length)).toArray
 | [],k,cur,_=>by simp
 | v::U,k,cur,hl=>by
  rw[List.length_cons]at hl
  rw[List.zipIdx_cons,List.foldl_cons,rr o U (k+1) _ (by simp;omega)]
  have e1:(cur.setIfInBounds (o+k) v).toList.take (o+(k+1))=cur.toList.take (o+k)++[v]:=by
   rw[Array.toList_setIfInBounds,←Nat.add_assoc,List.take_add_one,List.take_set_of_le (Nat.le_refl _),List.getElem?_set_self (by simp;omega)]
   rfl
  have e2:(cur.setIfInBounds (o+k) v).toList.drop (o+(k+1)+U.length)=cur.toList.drop (o+k+(v::U).length):=by
   rw[Array.toList_setIfInBounds,List.drop_set_of_lt (by omega),List.length_cons]
   congr 1
   omega
  simp only[e1,e2]
  simp
def sK(a b c d:Value):Array Value:=#[a,b,c,d,.int .u8 0,.int .u8 0,.int .u8 0,.int .u8 0,.int .u8 0,.int .u8 0,.int .u8 0,.int .u8 0,.int .u8 0,.int .u8 0,.int .u8 0,.int .u8 0,.int .u8 0,.int .u8 0,.int .u8 0,.int .u8 0,.int .u8 0,.int .u8 0,.int .u8 0,.int .u8 0,.int .u8 0,.int .u8 0,.int .u8 0,.int .u8 0,.int .u8 0,.int .u8 0,.int .u8 0,.int .u8 0,.int .u8 0,.int .u8 0,.int .u8 0,.int .u8 0]
theorem Qq(a b c d:Value){U:List Value}(h:U.length=32):(U.zipIdx).foldl (fun cs x=>cs.setIfInBounds (4+x.snd) x.fst) (sK a b c d)=([a,b,c,d]++U).toArray:=by
 rw[rr 4 U 0 _ (by rw[h];exact Nat.le_refl 36)]
 have e1:(sK a b c d).toList.take (4+0)=[a,b,c,d]:=rfl
 have e2:(sK a b c d).toList.drop (4+0+U.length)=[]:=by rw[h];rfl
 rw[e1,e2,List.append_nil]
structure Lu(w:World)(pl:ByteArray)(rv:Value)(U:List Value)(W:World):Prop where
 aQ:Below w.heap.size w W
 b0:W.heap[w.heap.size]?=some (.cells #[.string pl,rv] 101 (0,0))
 b1:W.heap[w.heap.size+1]?=some (.cells U.toArray 105 (0,0))
 b2:∃cur:Array Value,W.heap[w.heap.size+2]?=some (.cells cur 107 (0,0))∧cur.size=36
theorem Lu.init{w:World}{pl:ByteArray}{rv:Value}{U:List Value}{Z:Array Value}(hz:Z.size=36):Lu w pl rv U (((w.alloc (.cells #[.string pl,rv] 101)).alloc (.cells U.toArray 105)).alloc (.cells Z 107)):=by
 refine⟨(((Below.refl _ _).alloc (Nat.le_refl _) _).alloc (by simp) _).alloc (by simp only[World.size_alloc];omega) _, ?_, ?_,Z, ?_,hz⟩
 · rw[Below.heap_alloc _ _ _ (by simp only[World.size_alloc];omega),Below.heap_alloc _ _ _ (by simp)]
   exact heap_alloc_new w _
 · rw[Below.heap_alloc _ _ _ (by simp)]
   exact pM w _ _
 · have:=pM (w.alloc (.cells #[.string pl,rv] 101)) (.cells U.toArray 105) (.cells Z 107)
   simpa using this
theorem Lu.below{w W W':World}{pl:ByteArray}{rv:Value}{U:List Value}(h:Lu w pl rv U W)(hb:Below W.heap.size W W'):Lu w pl rv U W':=by
 obtain⟨cur,h2,h3⟩:=h.b2
 exact⟨h.aQ.trans (hb.mono h.aQ.size),by rw[hb.block _ (lt_of_heap h.b0)];exact h.b0,by rw[hb.block _ (lt_of_heap h.b1)];exact h.b1,cur,by rw[hb.block _ (lt_of_heap h2)];exact h2,h3⟩
theorem Lu.cells{w W:World}{pl:ByteArray}{rv:Value}{U:List Value}(h:Lu w pl rv U W):W.cell? ⟨w.heap.size,0,none⟩=some (.string pl)∧W.cell? ⟨w.heap.size,1,none⟩=some rv:=⟨by rw[cell_of_row _ _ _ _ _ _ h.b0];rfl,by rw[cell_of_row _ _ _ _ _ _ h.b0];rfl⟩
theorem mI{G:List GT}{t:GT}(h:t∈G):t.L.length≤nk G:=by
 induction G with
 | nil=>cases h
 | cons a G ih=>
  unfold nk at ih ⊢
  rw[List.map_cons,List.sum_cons]
  rcases List.mem_cons.1 h with rfl | h
  · omega
  · have:=ih h;omega
theorem xA(w:World)(pl:ByteArray)(rd:Option Addr)(rc:Nat)(l:List MR)(hl:fA w rd rc l)(EE:l.length≤8)(h1:Pd.One (bQ (l.map MR.ay)))(cE:l≠[])(cR:∀p,p∈bQ (l.map MR.ay)→p.1.size≤1000000)
 (gm:Nat)(G:List GT)(hG:kY w gm G)(P4:∀p,p∈bQ (l.map MR.ay)→p.1∈G.map GT.nm)(hGt:nk G≤40)(hd:List UInt8)(RT:hd.length=32)
 (dj:∀Q,Pd.vp Q→(∀p,p∈Q↔p∈bQ (l.map MR.ay))→(fu (l.map MR.ay) (dz Q G)).isSome=true):
 Calls Tryz.prog 57 #[.agg #[.string pl,.slice rd l.length rc],.map (some gm),.agg (Rc.bP hd).toArray] w fun e w'=>∃hm T s Q,e=.returned (.tuple #[.agg (aL pl (.slice rd l.length rc) gm hm hd),.bool true])∧
  Pd.vp Q∧(∀p,p∈Q↔p∈bQ (l.map MR.ay))∧fu (l.map MR.ay) (dz Q G)=some s∧pe w' hm T s∧T.map gX=Q.reverse∧(∀b,b∈cG hm T→w.heap.size≤b)∧Below w.heap.size w w':=by
 have acL:∀t,t∈G→t.L.length≤1000:=fun t ht=>Nat.le_trans (mI ht) (by omega)
 have VN:Hid (∀W,Lu w pl (.slice rd l.length rc) (Rc.bP hd) W→Calls Tryz.prog 110 #[.map (some gm)] W fun e w'=>e=.returned (.int .i64 (nk G:Nat))∧Hid (Lu w pl (.slice rd l.length rc) (Rc.bP hd) w')∧w'.cell? ⟨w.heap.size,0,none⟩=some (.string pl)∧w'.cell? ⟨w.heap.size,1,none⟩=some (.slice rd l.length rc)):=by
  intro W hW
  refine(J9 W gm G (hG.below hW.aQ) (by omega)).mono ?_
  rintro e w' ⟨rfl,hb⟩
  exact⟨rfl,hW.below hb,(hW.below hb).cells.1,(hW.below hb).cells.2⟩
 have HMO:Hid (∀W,Hid (Lu w pl (.slice rd l.length rc) (Rc.bP hd) W)→Calls Tryz.prog 111 #[.agg #[.string pl,.slice rd l.length rc],.map (some gm)] W fun e w'=>∃hm,e=.returned (.tuple #[.map (some hm),.bool true])∧Hid (Lu w pl (.slice rd l.length rc) (Rc.bP hd) w')∧w'.cell? ⟨w.heap.size,0,none⟩=some (.string pl)∧w'.cell? ⟨w.heap.size,1,none⟩=some (.slice rd l.length rc)∧Hid (∃T s Q,Pd.vp Q∧(∀p,p∈Q↔p∈bQ (l.map MR.ay))∧fu (l.map MR.ay) (dz Q G)=some s∧pe w' hm T s∧T.map gX=Q.reverse∧(∀b,b∈cG hm T→w.heap.size+3≤b))):=by
  intro W hW
  have hW:=hW.out
  refine(KJ W pl rd rc l (hl.below hW.aQ) EE h1 cE cR gm G (hG.below hW.aQ) P4 acL).mono ?_
  rintro e w' ⟨Q,hQ,hp⟩
  rcases hp.ans with⟨hm,T,s,rfl,q1,q2,q3,q4⟩ | ⟨_,q⟩
  · have aG:w.heap.size+2<W.heap.size:=by
     obtain⟨cur,e,_⟩:=hW.b2
     exact lt_of_heap e
    exact⟨hm,rfl,hW.below hp.aQ,(hW.below hp.aQ).cells.1,(hW.below hp.aQ).cells.2,T,s,Q,hQ.out.1,hQ.out.2,q1,q2,q3,fun b hb=>by have:=q4 b hb;omega⟩
  · have:=dj Q hQ.out.1 hQ.out.2
    rw[q]at this
    cases this
 have JP:(Rc.bP hd).length=32:=by rw[Rc.bN,RT]
 have R3:=Rc.sB hd
 have eL:aL pl (.slice rd l.length rc) gm=fun hm hd=>([Value.string pl,.slice rd l.length rc,.map (some gm),.map (some hm)]++Rc.bP hd).toArray:=rfl
 rw[eL]
 generalize hU:(Rc.bP hd)=U at JP R3 VN HMO ⊢
 have dk:(Value.agg U.toArray).cells=U.toArray:=rfl
 have Sz:∀a b c d:Value,([a,b,c,d]++U).toArray.size=36:=by intros;simp[JP]
 clear dj hl hG P4 cR h1 cE
 go_enter Tryz.func57,Tryz.ntmps57
 go_wp2_with (first | (go_at_call 110;refine(VN.out _ (by exact Lu.init rfl)).mono ?_;rintro e w1 ⟨rfl,HM1,c0,c1⟩) | (go_at_call 111;refine(HMO.out _ HM1).mono ?_;rintro e w2 ⟨hm,rfl,V7,d0,d1,HE⟩) | (refine wpList_load_row rfl _ _ rfl (w.heap.size+1) rfl _ _ _ _ V7.out.b1 Tryz.underlying105 rfl (by rw[List.size_toArray,JP];kernel_rfl) ?_) | (obtain⟨cur,cw,br⟩:=V7.out.b2;refine wpList_store_row rfl 107 (.tmp 6) (.tmp 27) rfl (w.heap.size+1+1) rfl ([Value.string pl,.slice rd l.length rc,.map (some gm),.map (some hm)]++U).toArray (congrArg Value.agg (Qq _ _ _ _ JP)) _ cur cw (by simp[JP,br]) ((show(Tryz.prog.info? 107).map (·.size)=some 36 by kernel_rfl).trans (congrArg some (Sz _ _ _ _).symm)) (by intro v hv;simp at hv;rcases hv with rfl | rfl | rfl | rfl | hv;rfl;rfl;rfl;rfl;exact R3 v hv) ?_))
 obtain⟨T,s,Q,e1,e2,e3,e4,e5,e6⟩:=HE.out
 have hk:Kb [w.heap.size+1+1] w2 (w2.setRow (w.heap.size+1+1) (([Value.string pl,.slice rd l.length rc,.map (some gm),.map (some hm)]++U).toArray)):=Kb.setRow _ _ _
 refine bodyPost_ret (v:=.tuple #[.agg ([Value.string pl,.slice rd l.length rc,.map (some gm),.map (some hm)]++U).toArray,.bool true]) ?_ rfl ⟨hm,T,s,Q,by rw[←hU];rfl,e1,e2,e3,e4.kept hk (fun b hb=>by have:=e6 b hb;simp;omega),e5,fun b hb=>by have:=e6 b hb;omega,hk.aU V7.out.aQ V7.out.aQ.size (by simp;omega)⟩
 refine Eq.trans (dn rfl _ _ _ _ _ _ _ rfl (bz w2 _ _ cw) Tryz.underlying107 rfl ((show(Tryz.prog.info? 107).map (·.size)=some 36 by kernel_rfl).trans (congrArg some (Sz _ _ _ _).symm))) ?_
 rfl
end
/- axiomkeep.all: the list as it grows. -/
section
open Go.RowKit
def pC(p a b:Nat):ByteArray×List ByteArray:=if p=0 then (Ax.cp 0,[Ax.bZ a])else (Ax.cp p,[Ax.bZ a,Ax.bZ b])
def bk(i:Nat):ByteArray×List ByteArray:=if i<4 then pC 0 i 0 else if i<20 then pC 1 ((i-4)/4) ((i-4)%4)else pC 2 ((i-20)/4) ((i-20)%4)
theorem Yt{a:Nat}(h:a<4)(b:Nat):bk a=pC 0 a b:=by unfold bk;rw[if_pos h];rfl
theorem Wv{p a b:Nat}(hp:p=1∨p=2)(ha:a<4)(hb:b<4):bk (4+16*(p-1)+4*a+b)=pC p a b:=by
 unfold bk
 rcases hp with rfl | rfl
 · rw[if_neg (by omega),if_pos (by omega),show(4+16*(1-1)+4*a+b-4)/4=a by omega,show(4+16*(1-1)+4*a+b-4)%4=b by omega]
 · rw[if_neg (by omega),if_neg (by omega),show(4+16*(2-1)+4*a+b-20)/4=a by omega,show(4+16*(2-1)+4*a+b-20)%4=b by omega]
theorem rj(l:List FI)(f:FI):fP (l++[f])=fP l++[.string f.pred,f.av]:=by simp[fP]
structure iL(w wr:World)(a:Value)(n:Nat)(l:List FI):Prop where
 row:wr.ownsRow w.heap.size 48 2 a l.length (fP l)
 each:∀f,f∈l→wr.ownsRow w.heap.size 9 1 f.av f.args.length (strCells f.args)
 data:l.map (fun f=>(f.pred,f.args))=(List.range n).map bk
 aQ:Below w.heap.size w wr
theorem iL.len{w wr:World}{a:Value}{n:Nat}{l:List FI}(h:iL w wr a n l):l.length=n:=by
 have:=congrArg List.length h.data
 simpa using this
theorem iL.below{w wr w':World}{a:Value}{n:Nat}{l:List FI}(h:iL w wr a n l)(hb:Below wr.heap.size wr w'):iL w w' a n l:=
 ⟨ah h.row hb,fun f hf=>ah (h.each f hf) hb,h.data,h.aQ.trans (hb.mono h.aQ.size)⟩
theorem iL.nil(w:World):iL w w (.slice none 0 0) 0 []:=⟨World.ownsRow_nil _ _ _ _,by simp,rfl,Below.refl _ _⟩
theorem iL.step{w wr w2:World}{a v2:Value}{n:Nat}{l:List FI}(h:iL w wr a n l){pd:ByteArray}{args:List ByteArray}(hd:bk n=(pd,args))(Lt:0<args.length)(ha9:args.length≤1000)
 (au:w2.ownsRow w.heap.size 48 2 v2 (l.length+1) (fP l++[.string pd,.slice (some ⟨wr.heap.size,0,none⟩) args.length args.length]))
 (hg:((wr.alloc (.cells (strCells args).toArray 9)).alloc (.cells #[.string pd,.slice (some ⟨wr.heap.size,0,none⟩) args.length args.length] 48)).grownBy w2 a.ownBlock):
 iL w w2 v2 (n+1) (l++[⟨pd,args,.slice (some ⟨wr.heap.size,0,none⟩) args.length args.length⟩]):=by
 have hs:=h.aQ.size
 have cw:Below wr.heap.size wr ((wr.alloc (.cells (strCells args).toArray 9)).alloc (.cells #[.string pd,.slice (some ⟨wr.heap.size,0,none⟩) args.length args.length] 48)):=((Below.refl _ _).alloc (Nat.le_refl _) _).alloc (by simp) _
 have hk:=Kb.dV hg
 have aG:∀q,a.ownBlock=some q→w.heap.size≤q∧q<wr.heap.size:=fun q hq=>h.row.lt q hq
 have Oi:((wr.alloc (.cells (strCells args).toArray 9)).alloc (.cells #[.string pd,.slice (some ⟨wr.heap.size,0,none⟩) args.length args.length] 48)).ownsRow w.heap.size 9 1 (.slice (some ⟨wr.heap.size,0,none⟩) args.length args.length) args.length (strCells args):=by
  refine World.ownsRow.alloc ?_ _
  have hl:(strCells args).length=args.length:=by simp[strCells]
  exact mT hl ha9 hs
 refine⟨?_, ?_, ?_, ?_⟩
 · rw[rj,List.length_append]
   exact au
 · intro f hf
   rcases List.mem_append.1 hf with hf | hf
   · refine hk.row (ah (h.each f hf) cw) (fun b hb hc=> ?_)
     rw[Option.mem_toList]at hc
     obtain⟨c1,e1⟩:=aI (h.each f hf) hb
     obtain⟨c2,e2⟩:=aI h.row hc
     rw[e1]at e2
     simp at e2
   · simp only[List.mem_singleton]at hf
     subst hf
     refine hk.row Oi (fun b hb hc=> ?_)
     rw[Option.mem_toList]at hc
     have:=(aG b hc).2
     simp[Value.ownBlock]at hb
     omega
 · rw[List.map_append,h.data,List.range_succ,List.map_append]
   simp[hd]
 · exact hk.aU (h.aQ.trans (cw.mono hs)) (by simp;omega) (fun q hq=>by rw[Option.mem_toList]at hq;exact(aG q hq).1)
end
/- What is given to axiomkeep's engine, told by the 36 facts, and what its search gives. No program here. -/
section
open Go.RowKit
theorem iN(i:Nat):En.uF i=((bk i).1,Tb.dw (bk i).2):=by
 unfold En.uF bk
 split
 · rfl
 · split<;>rfl
def jW:List Pd.Pr:=[(Ax.cp 0,1),(Ax.cp 1,2),(Ax.cp 2,2)]
theorem IB:Pd.One jW:=by
 unfold Pd.One jW
 decide
theorem Qh{p:Nat}{ts:List Nat}(h:Ax.gY p ts):(Ax.cp p,ts.length)∈jW:=by
 obtain⟨h1,h2⟩:=h
 rw[h2]
 have:p=0∨p=1∨p=2:=by omega
 rcases this with rfl | rfl | rfl<;>simp[jW]
def Ml(R:List Ax.ER):List Pd.Pr:=R.flatMap fun r=>(r.1::r.2).map fun a=>(a.1,a.2.length)
theorem DM:∀rs:List Ax.bD,bQ rs=Ml (rs.map Ax.lj)
 | []=>rfl
 | r::rs=>by
  have ih:=DM rs
  unfold bQ Ml at ih ⊢
  rw[List.flatMap_cons,List.map_append,ih,List.map_cons,List.flatMap_cons]
  congr 1
  simp[Ax.bD.atoms,Ax.lj,Ax.Cm,pK,Function.comp_def]
theorem eZ{rs:List Ax.bD}{kl:List Ax.aA}(he:rs.map Ax.lj=Ax.gR kl)(p:Pd.Pr):p∈bQ rs↔p∈jW:=by
 rw[DM,he]
 unfold Ml
 rw[List.mem_flatMap]
 constructor
 · rintro⟨r,hr,hp⟩
   obtain⟨a,ha,rfl⟩:=List.mem_map.1 hp
   obtain⟨⟨q,ts,e,hk⟩,h2,_⟩:=Ax.oy kl r hr
   have:∃q ts,a=Ax.jM q ts∧Ax.gY q ts:=by
    rcases List.mem_cons.1 ha with rfl | ha
    · exact⟨q,ts,e,hk⟩
    · exact h2 a ha
   obtain⟨q,ts,rfl,hk⟩:=this
   have:=Qh hk
   simpa [Ax.jM]using this
 · intro hp
   have m0:(Ax.jM 0 [0],[Ax.jM 0 [0],Ax.jM 1 [0,0]])∈Ax.gR kl:=by simp[Ax.gR,Ax.nO]
   have m1:(Ax.jM 0 [0],[Ax.jM 0 [0],Ax.jM 2 [0,0]])∈Ax.gR kl:=by simp[Ax.gR,Ax.nO]
   simp only[jW,List.mem_cons,List.not_mem_nil,or_false]at hp
   rcases hp with rfl | rfl | rfl
   · exact⟨_,m0,by simp[Ax.jM]⟩
   · exact⟨_,m0,by simp[Ax.jM]⟩
   · exact⟨_,m1,by simp[Ax.jM]⟩
theorem pq{rs:List Ax.bD}{kl:List Ax.aA}(he:rs.map Ax.lj=Ax.gR kl):Pd.One (bQ rs):=fun a ha b hb e=>IB a ((eZ he a).1 ha) b ((eZ he b).1 hb) e
theorem dO:∀p,p∈jW→p.1.size≤3:=by unfold jW;decide
theorem kp{i:Nat}(h:i<36):((bk i).1,(bk i).2.length)∈jW:=by
 unfold bk
 split
 · simp[pC,jW]
 · split<;>simp[pC,jW]
theorem fQ(i:Nat):∀a,a∈(bk i).2→Ax.lL a=true∧a.size≤2:=by
 have h1:∀n,Ax.lL (Ax.bZ n)=true:=by
  intro n
  unfold Ax.bZ
  split<;>decide
 have key:∀p x y,∀a,a∈(pC p x y).2→Ax.lL a=true∧a.size≤2:=by
  intro p x y a ha
  unfold pC at ha
  split at ha
  · simp only[List.mem_cons,List.not_mem_nil,or_false]at ha
    subst ha
    exact⟨h1 _,Ax.rV _⟩
  · simp only[List.mem_cons,List.not_mem_nil,or_false]at ha
    rcases ha with rfl | rfl
    · exact⟨h1 _,Ax.rV _⟩
    · exact⟨h1 _,Ax.rV _⟩
 unfold bk
 split
 · exact key _ _ _
 · split<;>exact key _ _ _
structure gh(G:List GT)(gv:Nat→Bool):Prop where
 nf:∀p,p∈G.map sW↔p∈jW
 rows:∀t,t∈G→∀r,r∈t.L↔∃i,i<36∧gv i=true∧En.uF i=(t.nm,r)
theorem gh.perm{G N:List GT}{gv:Nat→Bool}(h:gh G gv)(hp:(N.map j9).Perm (G.map j9)):gh N gv:=by
 have hm:∀d,d∈N.map j9↔d∈G.map j9:=fun d=>hp.mem_iff
 refine⟨?_, ?_⟩
 · intro p
   rw[←h.nf p]
   have e:∀X:List GT,X.map sW=(X.map j9).map fun d=>(d.1,d.2.1):=fun X=>by simp[j9,sW,Function.comp_def]
   rw[e,e,List.mem_map,List.mem_map]
   constructor
   · rintro⟨d,hd,rfl⟩;exact⟨d,(hm d).1 hd,rfl⟩
   · rintro⟨d,hd,rfl⟩;exact⟨d,(hm d).2 hd,rfl⟩
 · intro t ht r
   obtain⟨u,hu,e⟩:=List.mem_map.1 ((hm _).1 (List.mem_map_of_mem ht))
   simp only[j9,Prod.mk.injEq]at e
   rw[←e.2.2,←e.1]
   exact h.rows u hu r
theorem gh.has{G:List GT}{gv:Nat→Bool}(h:gh G gv){p:ByteArray}{n:Nat}(hp:(p,n)∈jW):∃t,t∈G∧t.nm=p∧t.pl=n:=by
 obtain⟨t,ht,e⟩:=List.mem_map.1 ((h.nf _).2 hp)
 simp only[sW,Prod.mk.injEq]at e
 exact⟨t,ht,e⟩
theorem gh.len{G:List GT}{gv:Nat→Bool}(h:gh G gv)(hn:(G.map GT.nm).Nodup):G.length≤3:=by
 have hs:G.map GT.nm ⊆ jW.map Prod.fst:=by
  intro x hx
  obtain⟨t,ht,rfl⟩:=List.mem_map.1 hx
  exact List.mem_map.2 ⟨sW t,(h.nf _).1 (List.mem_map_of_mem ht),rfl⟩
 have:=List.Nodup.length_le_of_subset hn hs
 simpa [jW]using this
theorem JQ{L:List (List ByteArray)}(h:Tb.Ord L):L.Nodup:=List.Pairwise.imp (fun {a b} rG e=>by subst e;rw[Tb.oF]at rG;omega) h
theorem K8(G:List GT):nk G=(G.flatMap fun t=>t.L.map fun r=>(t.nm,r)).length:=by
 induction G with
 | nil=>rfl
 | cons t G ih=>
  unfold nk at ih ⊢
  rw[List.map_cons,List.sum_cons,List.flatMap_cons,List.length_append,ih,List.length_map]
theorem gh.sum{G:List GT}{gv:Nat→Bool}(h:gh G gv)(hn:(G.map GT.nm).Nodup)(ho:∀t,t∈G→Tb.Ord t.L):nk G≤36:=by
 rw[K8]
 have DE:(G.flatMap fun t=>t.L.map fun r=>(t.nm,r)).Nodup:=by
  unfold List.Nodup
  rw[List.pairwise_flatMap]
  refine⟨?_, ?_⟩
  · intro t ht
    have:=JQ (ho t ht)
    rw[List.pairwise_map]
    exact List.Pairwise.imp (fun {a b} rG e=>rG (by simpa using e)) this
  · have CL:G.Pairwise fun a b=>a.nm≠b.nm:=List.pairwise_map.1 hn
    refine List.Pairwise.imp ?_ CL
    intro a b rG x hx y hy e
    obtain⟨r,_,rfl⟩:=List.mem_map.1 hx
    obtain⟨q,_,rfl⟩:=List.mem_map.1 hy
    exact rG (by simpa using(congrArg Prod.fst e))
 have hs:(G.flatMap fun t=>t.L.map fun r=>(t.nm,r)) ⊆ (List.range 36).map En.uF:=by
  intro x hx
  obtain⟨t,ht,hx⟩:=List.mem_flatMap.1 hx
  obtain⟨r,hr,rfl⟩:=List.mem_map.1 hx
  obtain⟨i,hi,_,e⟩:=(h.rows t ht r).1 hr
  exact List.mem_map.2 ⟨i,by simpa using hi,e⟩
 have:=List.Nodup.length_le_of_subset DE hs
 simpa using this
theorem gh.dz{G:List GT}{gv:Nat→Bool}(h:gh G gv)(hn:(G.map GT.nm).Nodup){Q:List Pd.Pr}(hQ:∀p,p∈Q↔p∈jW)(f:En.b7):f∈dz Q G↔En.gF gv f:=by
 unfold Go.Proofs.YtdmicblafmhflaaGreatDoor.dz En.gF
 rw[List.mem_flatMap]
 constructor
 · rintro⟨p,hp,hf⟩
   obtain⟨r,hr,rfl⟩:=List.mem_map.1 hf
   obtain⟨t,ht,e,_⟩:=h.has (p:=p.1) (n:=p.2) ((hQ p).1 hp)
   rw[←e,qh hn ht]at hr
   obtain⟨i,hi,hg,e2⟩:=(h.rows t ht r).1 hr
   exact⟨i,hi,hg,by rw[e2,e]⟩
 · rintro⟨i,hi,hg,rfl⟩
   have hp:=kp hi
   obtain⟨t,ht,e,_⟩:=h.has hp
   refine⟨_,(hQ _).2 hp,List.mem_map.2 ⟨Tb.dw (bk i).2, ?_,(iN i).symm⟩⟩
   show Tb.dw (bk i).2∈rowsOf G (bk i).1
   rw[←e,qh hn ht]
   exact(h.rows t ht _).2 ⟨i,hi,hg,by rw[iN,e]⟩
theorem om{rs:List Ax.bD}{kl:List Ax.aA}(he:rs.map Ax.lj=Ax.gR kl){G:List GT}{gv:Nat→Bool}(h:gh G gv)(hn:(G.map GT.nm).Nodup){Q:List Pd.Pr}(hQ:∀p,p∈Q↔p∈bQ rs):
 ∃s,fu rs (dz Q G)=some s∧En.Inv (En.sR (En.af kl)) (En.gF gv) s s.found.length:=by
 have VY:rs.map En.cS=En.sR (En.af kl):=En.F4 he
 have dj:=En.mn kl
 have hi:=En.JV (rs.map En.cS) (by rw[VY];exact En.Bg dj) (Go.Proofs.YtdmicblafmhflaaGreatDoor.dz Q G)
 have pa:(fun f=>f∈Go.Proofs.YtdmicblafmhflaaGreatDoor.dz Q G)=En.gF gv:=funext fun f=>propext (h.dz hn (fun p=>(hQ p).trans (eZ he p)) f)
 rw[pa,←En.tV,VY]at hi
 obtain⟨s,hs⟩:=En.DL dj hi 202 (by omega)
 refine⟨s, ?_,En.xt (En.Bg dj) 202 0 _ s hi (Nat.zero_le _) hs⟩
 unfold fu mstart
 rw[VY]
 exact hs
def fm(gv:Nat→Bool)(i:Nat)(b:Bool):Nat→Bool:=fun j=>if j=i then b else gv j
end
/- Engine.row. -/
section
open Go.RowKit Go.Maps Go.WideMaps Go.WideElems
theorem ks.UK{w:World}{mb:Nat}{m:List (ByteArray×Nat)}(h:ks w mb m){p:ByteArray}{g:Nat}(hl:Ax.look m p=some g)(hp:p.size≤1000000){t e:TypeId}(ht:Tryz.prog.underlying t=some (.map 9 e))(hz:(zeroValue e).run Tryz.prog w=.ok (.pointer none) w):
 (Instr.lookup t (.map (some mb)) (.string p) true).run Tryz.prog w=.ok (.tuple #[.pointer (some ⟨g,0,none⟩),.bool true]) w:=by
 obtain⟨n,D,au,hn,hD⟩:=h.has
 obtain⟨v,ps,Mv,hv⟩:=au.look_ok Tryz.gJ ht hz (zd:=.lit (.int .i64 (-1))) (zp:=[]) rfl (key:=.string p) (kl:=bh p) (keyOf_string_mk Tryz.underlying9 (by unfold maxLen;omega))
 rw[(hD p).2 g hl]at hv
 have hh:=(hD p).1
 rw[hl]at hh
 rw[Mv,oV hv,hh]
 rfl
theorem Dh(w:World)(eg hm g pl:Nat)(m:List (ByteArray×Nat))(p:ByteArray)(names:List ByteArray)(av:Value)(qo:w.cell? ⟨eg,3,none⟩=some (.map (some hm)))(hM:ks w hm m)(hl:Ax.look m p=some g)(hp:p.size≤1000000)
 (hc:w.cell? ⟨g,1,none⟩=some (.int .i64 pl))(hv:w.ownsRow 0 9 1 av names.length (strCells names))(hlen:names.length=pl)(h3:names.length≤3)(hn:∀a,a∈names→Ax.lL a=true)(hs:∀a,a∈names→a.size≤1000)(hT:eM w):
 Calls Tryz.prog 41 #[.pointer (some ⟨eg,0,none⟩),.agg #[.string p,av]] w fun e w'=>e=.returned (.tuple #[.agg (Tb.fJ names),.bool true])∧Below w.heap.size w w':=by
 subst hlen
 obtain⟨ad,ac,pJ⟩:=aj hv
 subst pJ
 obtain⟨w0,db⟩:∃w0,w0=(w.alloc (.cells #[.string p,.slice ad names.length ac] 48)).alloc (.cells #[.string ⟨#[]⟩,.string ⟨#[]⟩,.string ⟨#[]⟩] 119):=⟨_,rfl⟩
 have bU:Below w.heap.size w w0:=by rw[db];exact((Below.refl _ _).alloc (Nat.le_refl _) _).alloc (by simp) _
 have mJ:w0.heap[w.heap.size]?=some (.cells #[.string p,.slice ad names.length ac] 48 (0,0)):=by rw[db,Below.heap_alloc _ _ _ (by simp)];exact heap_alloc_new w _
 have ft:w0.heap[w.heap.size+1]?=some (.cells #[.string ⟨#[]⟩,.string ⟨#[]⟩,.string ⟨#[]⟩] 119 (0,0)):=by rw[db];exact pM w _ _
 have t0:w0.cell? ⟨w.heap.size,0,none⟩=some (.string p):=by rw[cell_of_row _ _ _ _ _ _ mJ];rfl
 have t1:w0.cell? ⟨w.heap.size,1,none⟩=some (.slice ad names.length ac):=by rw[cell_of_row _ _ _ _ _ _ mJ];rfl
 have e3:w0.cell? ⟨eg,3,none⟩=some (.map (some hm)):=by rw[bU.cell (block_lt_of_cell qo)];exact qo
 have nP:∀W:World,Below w.heap.size w W→(Instr.lookup 103 (.map (some hm)) (.string p) true).run Tryz.prog W=.ok (.tuple #[.pointer (some ⟨g,0,none⟩),.bool true]) W:=fun W hW=>(hM.below hW).UK hl hp Tryz.underlying103 (Tryz.zeroValue97 W)
 have aiV:=nP w0.drew bU.drew
 have Gj:Hid (∀W,Below w0.heap.size w0 W→Calls Tryz.prog 74 #[.pointer (some ⟨g,0,none⟩),.slice ad names.length ac] W fun e w5=>e=.returned (.tuple #[.agg (Tb.fJ names),.bool true])∧Hid (Below w.heap.size w w5∧w5.heap[w.heap.size+1]?=some (.cells #[.string ⟨#[]⟩,.string ⟨#[]⟩,.string ⟨#[]⟩] 119 (0,0)))∧w5.cell? ⟨w.heap.size,1,none⟩=some (.slice ad names.length ac)∧
  (∀o,o<3→(w5.cell? ⟨w.heap.size+1,o,none⟩)=some (.string ⟨#[]⟩))∧∀o,w5.frozen? ⟨w.heap.size+1,o,none⟩=false):=by
  intro W hW
  have sJ:Below w.heap.size w W:=bU.trans (hW.mono bU.size)
  refine(Iy W g names.length names _ (by rw[sJ.cell (block_lt_of_cell hc)];exact hc) (ah hv sJ) rfl h3 hn hs (Utf8Tabs_below hT sJ)).mono ?_
  rintro e w5 ⟨rfl,hb⟩
  have mN:Below w0.heap.size w0 w5:=hW.trans (hb.mono hW.size)
  have h5:w5.heap[w.heap.size+1]?=some (.cells #[.string ⟨#[]⟩,.string ⟨#[]⟩,.string ⟨#[]⟩] 119 (0,0)):=by rw[mN.block _ (lt_of_heap ft)];exact ft
  refine⟨rfl,⟨bU.trans (mN.mono bU.size),h5⟩,by rw[mN.cell (block_lt_of_cell t1)];exact t1, ?_, ?_⟩
  · intro o ho
    rw[cell_of_row _ _ _ _ _ _ h5]
    match o,ho with
    | 0,_=>rfl
    | 1,_=>rfl
    | 2,_=>rfl
  · intro o
    simp[World.frozen?,h5]
 have I4:=block_lt_of_cell qo
 have mO:=block_lt_of_cell hc
 have bF:Tb.fJ names=#[.string (Tb.dZ names 0),.string (Tb.dZ names 1),.string (Tb.dZ names 2)]:=rfl
 rw[bF]at Gj ⊢
 generalize Tb.dZ names 0=x0 at Gj ⊢
 generalize Tb.dZ names 1=x1 at Gj ⊢
 generalize Tb.dZ names 2=x2 at Gj ⊢
 clear nP hM hv hn hs hT qo hc mJ bF ft
 go_enter Tryz.func41,Tryz.ntmps41
 go_wp2_with fail
 rw[←db]
 clear db
 go_region
 go_wp2_with fail
 go_region_held3 (fun w'=>w'.cell? ⟨w.heap.size,1,none⟩=some (.slice ad names.length ac)) (go_keep) ((go_at_call 74;refine(Gj.out _ (by exact(Below.refl _ _).drew.drew)).mono ?_;rintro e w5 ⟨rfl,KA,d1,dc,df⟩;have d00:=dc 0 (by omega);have d01:=dc 1 (by omega);have d02:=dc 2 (by omega);have df0:=df 0;have df1:=df 1;have df2:=df 2))
 all_goals
  go_wp2_with fail
  refine bodyPost_ret (v:=.tuple #[.agg #[.string x0,.string x1,.string x2],.bool true]) ?_ rfl ⟨rfl,((KA.out.1.setCell (p:=⟨w.heap.size+1,0,none⟩) (by simp) _).setCell (p:=⟨w.heap.size+1,1,none⟩) (by simp) _).setCell (p:=⟨w.heap.size+1,2,none⟩) (by simp) _⟩
  refine Eq.trans (dn rfl _ _ _ _ _ _ _ rfl (re KA.out.2 _ _ _) Tryz.underlying119 rfl (by kernel_rfl)) ?_
  rfl
end
end Go.Proofs.YtdmicblafmhflaaGreatDoor
