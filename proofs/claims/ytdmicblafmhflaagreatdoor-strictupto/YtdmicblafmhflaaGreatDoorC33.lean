/- Package record: Append. -/
import Derived.Test.YtdmicblafmhflaaGreatDoorC32
import Derived.Deep.RegionLaw
import Derived.Deep.RegionHeld3
import Derived.Test.YtdmicblafmhflaaGreatDoorC24
import Derived.Test.YtdmicblafmhflaaGreatDoorC30
import Derived.Test.YtdmicblafmhflaaGreatDoorC08
import Derived.Test.YtdmicblafmhflaaGreatDoorC09
import Derived.Test.YtdmicblafmhflaaGreatDoorC10
import Derived.Test.YtdmicblafmhflaaGreatDoorC13
import Derived.Test.YtdmicblafmhflaaGreatDoorC23
import Derived.Test.YtdmicblafmhflaaGreatDoorC27
import Derived.Maps.OwnSet
set_option linter.unusedSimpArgs false
set_option linter.unusedVariables false
set_option maxHeartbeats 2000000
set_option maxRecDepth 100000
namespace Go.Proofs.YtdmicblafmhflaaGreatDoor
section
open Go.RowKit
theorem Ds(B:Nat)(w:World)(v:Value)(n:Nat)(xs:List Value)(content:ByteArray)(hd:List UInt8)(aj:w.ownsRow B 5 1 v n xs)(hB:B≤w.heap.size)(hn:n≤50000000000)(hc:content.size≤1000000000)(hl:hd.length=32):
 Calls Tryz.prog 71 #[v,.string content,.agg (Rc.bB hd).toArray] w fun e w'=>∃v' n',e=.returned v'∧qK B w w' v' n' (xs++Rc.bB (Rc.aL content++hd))∧Kb v.ownBlock.toList w w'∧cn w v v':=by
 obtain⟨i0,kP,eX,eP,eA⟩:=info_parts Tryz.kX
 have HI:Hid (Tryz.prog.info? 5=some i0):=kP
 have H0:Hid (i0.zero=some (.int .u8 0)):=eX
 have H1:Hid (i0.size=1):=eP
 have H2:Hid (i0.bytes=1):=eA
 clear kP eX eP eA
 obtain⟨vd,vc,R7⟩:=ah aj
 subst R7
 obtain⟨w0,di⟩:∃w0,w0=w.alloc (.cells (Rc.bB hd).toArray 105):=⟨_,rfl⟩
 have bK:Below B w w0:=by rw[di];exact(Below.refl _ _).alloc hB _
 have ho0:Lib.OthersKept 5 none w w0:=by rw[di];exact(Lib.OthersKept.refl _ _ _).alloc _
 have UJ:Below w.heap.size w w0:=by rw[di];exact(Below.refl _ _).alloc (Nat.le_refl _) _
 have FL:w0.heap[w.heap.size]?=some (.cells (Rc.bB hd).toArray 105 (0,0)):=by rw[di];exact heap_alloc_new w _
 have ir:w0.ownsRow B 5 1 (.slice vd n vc) n xs:=by rw[di];exact aj.alloc _
 have qb:xs.length=n:=by have:=aj.1;omega
 have adA:(Rc.bB hd).length=32:=by rw[Rc.bC,hl]
 have YY:B≤w0.heap.size:=Nat.le_trans hB bK.size
 have vh:Hid (∀W:World,Below w0.heap.size w0 W→Calls Tryz.prog 77 #[.slice vd n vc,.string content] W fun e w1=>∃v1 n1,e=.returned v1∧n1≤60000000000∧w1.ownsRow B 5 1 v1 n1 (xs++Rc.bB (Rc.aL content))∧B≤w1.heap.size∧w.heap.size<w1.heap.size∧Hid (∀j u,(Rc.bB hd)[j]?=some u→w1.cell? ((⟨w.heap.size,0,none⟩:Addr).add j)=some u)∧Hid (Below B w w1∧Lib.OthersKept 5 none w w1∧Kb (Value.slice vd n vc).ownBlock.toList w w1∧cn w (.slice vd n vc) v1)):=by
  intro W hW
  have hBW:B≤W.heap.size:=Nat.le_trans YY hW.size
  refine(pY B W (.slice vd n vc) n xs content (af ir hW) hBW (by omega) (by omega)).mono ?_
  rintro e w1 ⟨v1,n1,rfl,q1,q2,q3,q4,q5⟩
  have pE:w1.heap[w.heap.size]?=some (.cells (Rc.bB hd).toArray 105 (0,0)):=q3 w.heap.size _ (by rw[hW.block _ (lt_of_heap FL)];exact FL) (by simp) (fun c fz e=>by simp at e)
  have vU:n1≤60000000000:=by
   have h1:=q1.1
   have h2:=Rc.rm content.size (by omega)
   rw[List.length_append,Rc.bC,Rc.aL,List.length_append]at h1
   simp at h1
   omega
  refine⟨v1,n1,rfl,vU,q1,Nat.le_trans hBW q2.size,lt_of_heap pE, ?_,⟨(bK.trans (hW.mono YY)).trans q2,aJ (aJ ho0 (bR hW)) q3,(Kb.bG (UJ.trans (hW.mono UJ.size)) _).trans q4,q5.mono (Nat.le_trans UJ.size hW.size)⟩⟩
  exact World.news_of_block pE
 clear aj ir bK ho0 FL
 go_enter Tryz.func71,Tryz.ntmps71
 go_wp2_with fail
 rw[←di]
 clear di
 go_region_held3 (fun _=>True) (trivial) (first | (go_at_call 77;refine(vh.out _ (by exact(Below.refl _ _).drew)).mono ?_;rintro e w1 ⟨v1,n1,rfl,vU,bj,U0,Nn,Xa,MI⟩) | (refine step_append_lies _ rfl (.tmp 9) (.tmp 10) 63 rfl B 5 i0 _ 1 1 Tryz.underlying63 HI.out H0.out H1.out H2.out rfl (by decide) v1 n1 (xs++Rc.bB (Rc.aL content)) (by simp[Act.eval,Act.put]) (by exact bj) ⟨w.heap.size,0,none⟩ 32 32 (Rc.bB hd) (by simp[Act.eval,Act.put]) (by rw[adA]) (by exact Xa.out) (Rc.qR hd) (by decide) (by unfold maxLen;omega) (by omega) (by exact U0) w1.heap.size rfl ?_;intro g2 mD w2 aO ch N9 rM))
 all_goals
  (have cM:Below B w w2:=MI.out.1.grown ch U0 (fun k hk=>(bj.lt k hk).1)
   have yW:Lib.OthersKept 5 none w w2:=MI.out.2.1.grown ch (cu bj)
   have WH:Hid (Kb (Value.slice vd n vc).ownBlock.toList w w2∧cn w (.slice vd n vc) (.slice (some ⟨g2,0,none⟩) (n1+32) mD)):=Iy MI.out.2.2.1 MI.out.2.2.2 ch (fun b hb=>by
    simp only[Value.ownBlock,Option.some.injEq]at hb
    subst hb
    rcases N9 with h | h
    · exact .inl h
    · exact .inr (by omega))
   have mR:Hid (qK B w w2 (.slice (some ⟨g2,0,none⟩) (n1+32) mD) (n1+32) (xs++Rc.bB (Rc.aL content++hd))):=⟨by rw[Rc.gq,←List.append_assoc];exact aO,cM,yW⟩
   clear ch aO cM yW
   go_wp2_with fail
   go_ret
   exact⟨_,_,rfl,mR.out,WH.out⟩)
end
/- state.Make. -/
section
open Go.RowKit Go.Maps
theorem lI.toG{w w':World}{mb:Nat}{G N:List GT}(h:lI w w' mb G [] N)(hs:∀t,t∈G→t.nm.size≤1000000)(hn:(G.map GT.nm).Nodup)(hl:G.length≤1000):jY w' mb N∧(N.map kj).Perm (G.map kj):=by
 have hp:(N.map kj).Perm (G.map kj):=by simpa using h.data
 have iG:(N.map GT.nm).Perm (G.map GT.nm):=by
  have:=hp.map Prod.fst
  simpa [List.map_map,Function.comp_def,kj]using this
 obtain⟨D,ho,hD⟩:=h.map
 refine⟨⟨kh.of ho (by have:=h.oo;omega) hD,fun t ht=>(h.bX t ht).1,h.apart,iG.nodup_iff.2 hn,fun t ht=> ?_⟩,hp⟩
 have:t.nm∈G.map GT.nm:=iG.mem_iff.1 (List.mem_map_of_mem ht)
 obtain⟨u,hu,e⟩:=List.mem_map.1 this
 rw[←e]
 exact hs u hu
def aI(pl:ByteArray)(rv:Value)(gm hm:Nat)(hd:List UInt8):Array Value:=([Value.string pl,rv,.map (some gm),.map (some hm)]++Rc.bB hd).toArray
theorem wH(o:Nat):∀(U:List Value) (k:Nat) (cur:Array Value),o+k+U.length≤cur.size→
 (U.zipIdx k).foldl (fun cs x=>cs.setIfInBounds (o+x.snd) x.fst) cur=(cur.toList.take (o+k)++U++cur.toList.drop (o+k+U.length)).toArray
 | [],k,cur,_=>by simp
 | v::U,k,cur,hl=>by
  rw[List.length_cons]at hl
  rw[List.zipIdx_cons,List.foldl_cons,wH o U (k+1) _ (by simp;omega)]
  have e1:(cur.setIfInBounds (o+k) v).toList.take (o+(k+1))=cur.toList.take (o+k)++[v]:=by
   rw[Array.toList_setIfInBounds,←Nat.add_assoc,List.take_add_one,List.take_set_of_le (Nat.le_refl _),List.getElem?_set_self (by simp;omega)]
   rfl
  have e2:(cur.setIfInBounds (o+k) v).toList.drop (o+(k+1)+U.length)=cur.toList.drop (o+k+(v::U).length):=by
   rw[Array.toList_setIfInBounds,List.drop_set_of_lt (by omega),List.length_cons]
   congr 1
   omega
  simp only[e1,e2]
  simp
def vm(a b c d:Value):Array Value:=#[a,b,c,d,.int .u8 0,.int .u8 0,.int .u8 0,.int .u8 0,.int .u8 0,.int .u8 0,.int .u8 0,.int .u8 0,.int .u8 0,.int .u8 0,.int .u8 0,.int .u8 0,.int .u8 0,.int .u8 0,.int .u8 0,.int .u8 0,.int .u8 0,.int .u8 0,.int .u8 0,.int .u8 0,.int .u8 0,.int .u8 0,.int .u8 0,.int .u8 0,.int .u8 0,.int .u8 0,.int .u8 0,.int .u8 0,.int .u8 0,.int .u8 0,.int .u8 0,.int .u8 0]
theorem Qg(a b c d:Value){U:List Value}(h:U.length=32):(U.zipIdx).foldl (fun cs x=>cs.setIfInBounds (4+x.snd) x.fst) (vm a b c d)=([a,b,c,d]++U).toArray:=by
 rw[wH 4 U 0 _ (by rw[h];exact Nat.le_refl 36)]
 have e1:(vm a b c d).toList.take (4+0)=[a,b,c,d]:=rfl
 have e2:(vm a b c d).toList.drop (4+0+U.length)=[]:=by rw[h];rfl
 rw[e1,e2,List.append_nil]
structure CE(w:World)(pl:ByteArray)(rv:Value)(U:List Value)(W:World):Prop where
 be:Below w.heap.size w W
 b0:W.heap[w.heap.size]?=some (.cells #[.string pl,rv] 101 (0,0))
 b1:W.heap[w.heap.size+1]?=some (.cells U.toArray 105 (0,0))
 b2:∃cur:Array Value,W.heap[w.heap.size+2]?=some (.cells cur 107 (0,0))∧cur.size=36
theorem CE.init{w:World}{pl:ByteArray}{rv:Value}{U:List Value}{Z:Array Value}(hz:Z.size=36):CE w pl rv U (((w.alloc (.cells #[.string pl,rv] 101)).alloc (.cells U.toArray 105)).alloc (.cells Z 107)):=by
 refine⟨(((Below.refl _ _).alloc (Nat.le_refl _) _).alloc (by simp) _).alloc (by simp only[World.size_alloc];omega) _, ?_, ?_,Z, ?_,hz⟩
 · rw[Below.heap_alloc _ _ _ (by simp only[World.size_alloc];omega),Below.heap_alloc _ _ _ (by simp)]
   exact heap_alloc_new w _
 · rw[Below.heap_alloc _ _ _ (by simp)]
   exact pN w _ _
 · have:=pN (w.alloc (.cells #[.string pl,rv] 101)) (.cells U.toArray 105) (.cells Z 107)
   simpa using this
theorem CE.below{w W W':World}{pl:ByteArray}{rv:Value}{U:List Value}(h:CE w pl rv U W)(hb:Below W.heap.size W W'):CE w pl rv U W':=by
 obtain⟨cur,h2,h3⟩:=h.b2
 exact⟨h.be.trans (hb.mono h.be.size),by rw[hb.block _ (lt_of_heap h.b0)];exact h.b0,by rw[hb.block _ (lt_of_heap h.b1)];exact h.b1,cur,by rw[hb.block _ (lt_of_heap h2)];exact h2,h3⟩
theorem CE.cells{w W:World}{pl:ByteArray}{rv:Value}{U:List Value}(h:CE w pl rv U W):W.cell? ⟨w.heap.size,0,none⟩=some (.string pl)∧W.cell? ⟨w.heap.size,1,none⟩=some rv:=⟨by rw[cell_of_row _ _ _ _ _ _ h.b0];rfl,by rw[cell_of_row _ _ _ _ _ _ h.b0];rfl⟩
theorem rL{G:List GT}{t:GT}(h:t∈G):t.L.length≤fh G:=by
 induction G with
 | nil=>cases h
 | cons a G ih=>
  unfold fh at ih ⊢
  rw[List.map_cons,List.sum_cons]
  rcases List.mem_cons.1 h with rfl | h
  · omega
  · have:=ih h;omega
theorem I4(w:World)(pl:ByteArray)(rd:Option Addr)(rc:Nat)(l:List MR)(hl:eH w rd rc l)(CS:l.length≤8)(h1:Pd.One (aS (l.map MR.ak)))(cr:∀p,p∈aS (l.map MR.ak)→p.1.size≤1000000)
 (gm:Nat)(G:List GT)(hG:jY w gm G)(FH:∀p,p∈aS (l.map MR.ak)→p.1∈G.map GT.nm)(Ym:fh G≤40)(hd:List UInt8)(Fz:hd.length=32)
 (cB:∀Q,Pd.lX Q→(∀p,p∈Q↔p∈aS (l.map MR.ak))→(cg (l.map MR.ak) (cQ Q G)).isSome=true):
 Calls Tryz.prog 57 #[.agg #[.string pl,.slice rd l.length rc],.map (some gm),.agg (Rc.bB hd).toArray] w fun e w'=>∃hm T s Q,e=.returned (.tuple #[.agg (aI pl (.slice rd l.length rc) gm hm hd),.bool true])∧
  Pd.lX Q∧(∀p,p∈Q↔p∈aS (l.map MR.ak))∧cg (l.map MR.ak) (cQ Q G)=some s∧p5 w' hm T s∧T.map iR=Q.reverse∧(∀b,b∈cA hm T→w.heap.size≤b)∧Below w.heap.size w w':=by
 have MN:∀t,t∈G→t.L.length≤1000:=fun t ht=>Nat.le_trans (rL ht) (by omega)
 have PK:Hid (∀W,CE w pl (.slice rd l.length rc) (Rc.bB hd) W→Calls Tryz.prog 110 #[.map (some gm)] W fun e w'=>e=.returned (.int .i64 (fh G:Nat))∧Hid (CE w pl (.slice rd l.length rc) (Rc.bB hd) w')∧w'.cell? ⟨w.heap.size,0,none⟩=some (.string pl)∧w'.cell? ⟨w.heap.size,1,none⟩=some (.slice rd l.length rc)):=by
  intro W hW
  refine(Ae W gm G (hG.below hW.be) (by omega)).mono ?_
  rintro e w' ⟨rfl,hb⟩
  exact⟨rfl,hW.below hb,(hW.below hb).cells.1,(hW.below hb).cells.2⟩
 have HMO:Hid (∀W,Hid (CE w pl (.slice rd l.length rc) (Rc.bB hd) W)→Calls Tryz.prog 111 #[.agg #[.string pl,.slice rd l.length rc],.map (some gm)] W fun e w'=>∃hm,e=.returned (.tuple #[.map (some hm),.bool true])∧Hid (CE w pl (.slice rd l.length rc) (Rc.bB hd) w')∧w'.cell? ⟨w.heap.size,0,none⟩=some (.string pl)∧w'.cell? ⟨w.heap.size,1,none⟩=some (.slice rd l.length rc)∧Hid (∃T s Q,Pd.lX Q∧(∀p,p∈Q↔p∈aS (l.map MR.ak))∧cg (l.map MR.ak) (cQ Q G)=some s∧p5 w' hm T s∧T.map iR=Q.reverse∧(∀b,b∈cA hm T→w.heap.size+3≤b))):=by
  intro W hW
  have hW:=hW.out
  refine(A7 W pl rd rc l (hl.below hW.be) CS h1 cr gm G (hG.below hW.be) FH MN).mono ?_
  rintro e w' ⟨Q,hQ,hp⟩
  rcases hp.ans with⟨hm,T,s,rfl,q1,q2,q3,q4⟩ | ⟨_,q⟩
  · have aC:w.heap.size+2<W.heap.size:=by
     obtain⟨cur,e,_⟩:=hW.b2
     exact lt_of_heap e
    exact⟨hm,rfl,hW.below hp.be,(hW.below hp.be).cells.1,(hW.below hp.be).cells.2,T,s,Q,hQ.out.1,hQ.out.2,q1,q2,q3,fun b hb=>by have:=q4 b hb;omega⟩
  · have:=cB Q hQ.out.1 hQ.out.2
    rw[q]at this
    cases this
 have Ro:(Rc.bB hd).length=32:=by rw[Rc.bC,Fz]
 have QI:=Rc.qR hd
 have eo:aI pl (.slice rd l.length rc) gm=fun hm hd=>([Value.string pl,.slice rd l.length rc,.map (some gm),.map (some hm)]++Rc.bB hd).toArray:=rfl
 rw[eo]
 generalize hU:(Rc.bB hd)=U at Ro QI PK HMO ⊢
 have dt:(Value.agg U.toArray).cells=U.toArray:=rfl
 have SR:∀a b c d:Value,([a,b,c,d]++U).toArray.size=36:=by intros;simp[Ro]
 clear cB hl hG FH cr h1
 go_enter Tryz.func57,Tryz.ntmps57
 go_wp2_with (first | (go_at_call 110;refine(PK.out _ (by exact CE.init rfl)).mono ?_;rintro e w1 ⟨rfl,HM1,c0,c1⟩) | (go_at_call 111;refine(HMO.out _ HM1).mono ?_;rintro e w2 ⟨hm,rfl,Ws,d0,d1,HE⟩) | (refine wpList_load_row rfl _ _ rfl (w.heap.size+1) rfl _ _ _ _ Ws.out.b1 Tryz.underlying105 rfl (by rw[List.size_toArray,Ro];kernel_rfl) ?_) | (obtain⟨cur,cM,bA⟩:=Ws.out.b2;refine wpList_store_row rfl 107 (.tmp 6) (.tmp 27) rfl (w.heap.size+1+1) rfl ([Value.string pl,.slice rd l.length rc,.map (some gm),.map (some hm)]++U).toArray (congrArg Value.agg (Qg _ _ _ _ Ro)) _ cur cM (by simp[Ro,bA]) ((show(Tryz.prog.info? 107).map (·.size)=some 36 by kernel_rfl).trans (congrArg some (SR _ _ _ _).symm)) (by intro v hv;simp at hv;rcases hv with rfl | rfl | rfl | rfl | hv;rfl;rfl;rfl;rfl;exact QI v hv) ?_))
 obtain⟨T,s,Q,e1,e2,e3,e4,e5,e6⟩:=HE.out
 have hk:Kb [w.heap.size+1+1] w2 (w2.setRow (w.heap.size+1+1) (([Value.string pl,.slice rd l.length rc,.map (some gm),.map (some hm)]++U).toArray)):=Kb.setRow _ _ _
 refine bodyPost_ret (v:=.tuple #[.agg ([Value.string pl,.slice rd l.length rc,.map (some gm),.map (some hm)]++U).toArray,.bool true]) ?_ rfl ⟨hm,T,s,Q,by rw[←hU];rfl,e1,e2,e3,e4.kept hk (fun b hb=>by have:=e6 b hb;simp;omega),e5,fun b hb=>by have:=e6 b hb;omega,hk.aK Ws.out.be Ws.out.be.size (by simp;omega)⟩
 refine Eq.trans (ba rfl _ _ _ _ _ _ _ rfl (bq w2 _ _ cM) Tryz.underlying107 rfl ((show(Tryz.prog.info? 107).map (·.size)=some 36 by kernel_rfl).trans (congrArg some (SR _ _ _ _).symm))) ?_
 rfl
theorem Ep(w:World)(pl:ByteArray)(rd:Option Addr)(rc:Nat)(l:List MR)(hl:eH w rd rc l)(CS:l.length≤8)(h1:Pd.One (aS (l.map MR.ak)))(_:l≠[])(cr:∀p,p∈aS (l.map MR.ak)→p.1.size≤1000000)
 (gm:Nat)(G:List GT)(hG:jY w gm G)(FH:∀p,p∈aS (l.map MR.ak)→p.1∈G.map GT.nm)(Ym:fh G≤40)(hd:List UInt8)(Fz:hd.length=32)
 (cB:∀Q,Pd.lX Q→(∀p,p∈Q↔p∈aS (l.map MR.ak))→(cg (l.map MR.ak) (cQ Q G)).isSome=true):
 Calls Tryz.prog 57 #[.agg #[.string pl,.slice rd l.length rc],.map (some gm),.agg (Rc.bB hd).toArray] w fun e w'=>∃hm T s Q,e=.returned (.tuple #[.agg (aI pl (.slice rd l.length rc) gm hm hd),.bool true])∧
  Pd.lX Q∧(∀p,p∈Q↔p∈aS (l.map MR.ak))∧cg (l.map MR.ak) (cQ Q G)=some s∧p5 w' hm T s∧T.map iR=Q.reverse∧(∀b,b∈cA hm T→w.heap.size≤b)∧Below w.heap.size w w':=
 I4 w pl rd rc l hl CS h1 cr gm G hG FH Ym hd Fz cB
end
/- axiomkeep.all: the list as it grows. -/
section
open Go.RowKit
def pO(p a b:Nat):ByteArray×List ByteArray:=if p=0 then (Ax.cq 0,[Ax.bZ a])else (Ax.cq p,[Ax.bZ a,Ax.bZ b])
def cP(i:Nat):ByteArray×List ByteArray:=if i<4 then pO 0 i 0 else if i<20 then pO 1 ((i-4)/4) ((i-4)%4)else pO 2 ((i-20)/4) ((i-20)%4)
theorem ZN{a:Nat}(h:a<4)(b:Nat):cP a=pO 0 a b:=by unfold cP;rw[if_pos h];rfl
theorem XI{p a b:Nat}(hp:p=1∨p=2)(ha:a<4)(hb:b<4):cP (4+16*(p-1)+4*a+b)=pO p a b:=by
 unfold cP
 rcases hp with rfl | rfl
 · rw[if_neg (by omega),if_pos (by omega),show(4+16*(1-1)+4*a+b-4)/4=a by omega,show(4+16*(1-1)+4*a+b-4)%4=b by omega]
 · rw[if_neg (by omega),if_neg (by omega),show(4+16*(2-1)+4*a+b-20)/4=a by omega,show(4+16*(2-1)+4*a+b-20)%4=b by omega]
theorem ry(l:List FI)(f:FI):fN (l++[f])=fN l++[.string f.pred,f.av]:=by simp[fN]
structure je(w wr:World)(a:Value)(n:Nat)(l:List FI):Prop where
 row:wr.ownsRow w.heap.size 48 2 a l.length (fN l)
 each:∀f,f∈l→wr.ownsRow w.heap.size 9 1 f.av f.args.length (strCells f.args)
 data:l.map (fun f=>(f.pred,f.args))=(List.range n).map cP
 be:Below w.heap.size w wr
theorem je.len{w wr:World}{a:Value}{n:Nat}{l:List FI}(h:je w wr a n l):l.length=n:=by
 have:=congrArg List.length h.data
 simpa using this
theorem je.below{w wr w':World}{a:Value}{n:Nat}{l:List FI}(h:je w wr a n l)(hb:Below wr.heap.size wr w'):je w w' a n l:=
 ⟨af h.row hb,fun f hf=>af (h.each f hf) hb,h.data,h.be.trans (hb.mono h.be.size)⟩
theorem je.nil(w:World):je w w (.slice none 0 0) 0 []:=⟨World.ownsRow_nil _ _ _ _,by simp,rfl,Below.refl _ _⟩
theorem je.step{w wr w2:World}{a v2:Value}{n:Nat}{l:List FI}(h:je w wr a n l){pd:ByteArray}{args:List ByteArray}(hd:cP n=(pd,args))(Jq:0<args.length)(ha9:args.length≤1000)
 (aj:w2.ownsRow w.heap.size 48 2 v2 (l.length+1) (fN l++[.string pd,.slice (some ⟨wr.heap.size,0,none⟩) args.length args.length]))
 (hg:((wr.alloc (.cells (strCells args).toArray 9)).alloc (.cells #[.string pd,.slice (some ⟨wr.heap.size,0,none⟩) args.length args.length] 48)).grownBy w2 a.ownBlock):
 je w w2 v2 (n+1) (l++[⟨pd,args,.slice (some ⟨wr.heap.size,0,none⟩) args.length args.length⟩]):=by
 have hs:=h.be.size
 have cM:Below wr.heap.size wr ((wr.alloc (.cells (strCells args).toArray 9)).alloc (.cells #[.string pd,.slice (some ⟨wr.heap.size,0,none⟩) args.length args.length] 48)):=((Below.refl _ _).alloc (Nat.le_refl _) _).alloc (by simp) _
 have hk:=Kb.dK hg
 have aC:∀q,a.ownBlock=some q→w.heap.size≤q∧q<wr.heap.size:=fun q hq=>h.row.lt q hq
 have OR:((wr.alloc (.cells (strCells args).toArray 9)).alloc (.cells #[.string pd,.slice (some ⟨wr.heap.size,0,none⟩) args.length args.length] 48)).ownsRow w.heap.size 9 1 (.slice (some ⟨wr.heap.size,0,none⟩) args.length args.length) args.length (strCells args):=by
  refine World.ownsRow.alloc ?_ _
  have hl:(strCells args).length=args.length:=by simp[strCells]
  exact qX hl ha9 hs
 refine⟨?_, ?_, ?_, ?_⟩
 · rw[ry,List.length_append]
   exact aj
 · intro f hf
   rcases List.mem_append.1 hf with hf | hf
   · refine hk.row (af (h.each f hf) cM) (fun b hb hc=> ?_)
     rw[Option.mem_toList]at hc
     obtain⟨c1,e1⟩:=ay (h.each f hf) hb
     obtain⟨c2,e2⟩:=ay h.row hc
     rw[e1]at e2
     simp at e2
   · simp only[List.mem_singleton]at hf
     subst hf
     refine hk.row OR (fun b hb hc=> ?_)
     rw[Option.mem_toList]at hc
     have:=(aC b hc).2
     simp[Value.ownBlock]at hb
     omega
 · rw[List.map_append,h.data,List.range_succ,List.map_append]
   simp[hd]
 · exact hk.aK (h.be.trans (cM.mono hs)) (by simp;omega) (fun q hq=>by rw[Option.mem_toList]at hq;exact(aC q hq).1)
end
/- What is given to axiomkeep's engine, told by the 36 facts, and what its search gives. No program here. -/
section
open Go.RowKit
theorem tR(i:Nat):En.uF i=((cP i).1,Tb.dh (cP i).2):=by
 unfold En.uF cP
 split
 · rfl
 · split<;>rfl
def oj:List Pd.Pr:=[(Ax.cq 0,1),(Ax.cq 1,2),(Ax.cq 2,2)]
theorem RT:Pd.One oj:=by
 unfold Pd.One oj
 decide
theorem RN{p:Nat}{ts:List Nat}(h:Ax.gZ p ts):(Ax.cq p,ts.length)∈oj:=by
 obtain⟨h1,h2⟩:=h
 rw[h2]
 have:p=0∨p=1∨p=2:=by omega
 rcases this with rfl | rfl | rfl<;>simp[oj]
def OC(R:List Ax.ER):List Pd.Pr:=R.flatMap fun r=>(r.1::r.2).map fun a=>(a.1,a.2.length)
theorem DH:∀rs:List Ax.aP,aS rs=OC (rs.map Ax.ke)
 | []=>rfl
 | r::rs=>by
  have ih:=DH rs
  unfold aS OC at ih ⊢
  rw[List.flatMap_cons,List.map_append,ih,List.map_cons,List.flatMap_cons]
  congr 1
  simp[Ax.aP.atoms,Ax.ke,Ax.yR,oc,Function.comp_def]
theorem fu{rs:List Ax.aP}{kl:List Ax.aM}(he:rs.map Ax.ke=Ax.gR kl)(p:Pd.Pr):p∈aS rs↔p∈oj:=by
 rw[DH,he]
 unfold OC
 rw[List.mem_flatMap]
 constructor
 · rintro⟨r,hr,hp⟩
   obtain⟨a,ha,rfl⟩:=List.mem_map.1 hp
   obtain⟨⟨q,ts,e,hk⟩,h2,_⟩:=Ax.pj kl r hr
   have:∃q ts,a=Ax.jQ q ts∧Ax.gZ q ts:=by
    rcases List.mem_cons.1 ha with rfl | ha
    · exact⟨q,ts,e,hk⟩
    · exact h2 a ha
   obtain⟨q,ts,rfl,hk⟩:=this
   have:=RN hk
   simpa [Ax.jQ]using this
 · intro hp
   have m0:(Ax.jQ 0 [0],[Ax.jQ 0 [0],Ax.jQ 1 [0,0]])∈Ax.gR kl:=by simp[Ax.gR,Ax.re]
   have m1:(Ax.jQ 0 [0],[Ax.jQ 0 [0],Ax.jQ 2 [0,0]])∈Ax.gR kl:=by simp[Ax.gR,Ax.re]
   simp only[oj,List.mem_cons,List.not_mem_nil,or_false]at hp
   rcases hp with rfl | rfl | rfl
   · exact⟨_,m0,by simp[Ax.jQ]⟩
   · exact⟨_,m0,by simp[Ax.jQ]⟩
   · exact⟨_,m1,by simp[Ax.jQ]⟩
theorem Ck{rs:List Ax.aP}{kl:List Ax.aM}(he:rs.map Ax.ke=Ax.gR kl):Pd.One (aS rs):=fun a ha b hb e=>RT a ((fu he a).1 ha) b ((fu he b).1 hb) e
theorem iX:∀p,p∈oj→p.1.size≤3:=by unfold oj;decide
theorem te{i:Nat}(h:i<36):((cP i).1,(cP i).2.length)∈oj:=by
 unfold cP
 split
 · simp[pO,oj]
 · split<;>simp[pO,oj]
theorem ks(i:Nat):∀a,a∈(cP i).2→Ax.cf a=true∧a.size≤2:=by
 have h1:∀n,Ax.cf (Ax.bZ n)=true:=by
  intro n
  unfold Ax.bZ
  split<;>decide
 have key:∀p x y,∀a,a∈(pO p x y).2→Ax.cf a=true∧a.size≤2:=by
  intro p x y a ha
  unfold pO at ha
  split at ha
  · simp only[List.mem_cons,List.not_mem_nil,or_false]at ha
    subst ha
    exact⟨h1 _,Ax.qQ _⟩
  · simp only[List.mem_cons,List.not_mem_nil,or_false]at ha
    rcases ha with rfl | rfl
    · exact⟨h1 _,Ax.qQ _⟩
    · exact⟨h1 _,Ax.qQ _⟩
 unfold cP
 split
 · exact key _ _ _
 · split<;>exact key _ _ _
structure jh(G:List GT)(gv:Nat→Bool):Prop where
 mS:∀p,p∈G.map oI↔p∈oj
 rows:∀t,t∈G→∀r,r∈t.L↔∃i,i<36∧gv i=true∧En.uF i=(t.nm,r)
theorem jh.perm{G N:List GT}{gv:Nat→Bool}(h:jh G gv)(hp:(N.map kj).Perm (G.map kj)):jh N gv:=by
 have hm:∀d,d∈N.map kj↔d∈G.map kj:=fun d=>hp.mem_iff
 refine⟨?_, ?_⟩
 · intro p
   rw[←h.mS p]
   have e:∀X:List GT,X.map oI=(X.map kj).map fun d=>(d.1,d.2.1):=fun X=>by simp[kj,oI,Function.comp_def]
   rw[e,e,List.mem_map,List.mem_map]
   constructor
   · rintro⟨d,hd,rfl⟩;exact⟨d,(hm d).1 hd,rfl⟩
   · rintro⟨d,hd,rfl⟩;exact⟨d,(hm d).2 hd,rfl⟩
 · intro t ht r
   obtain⟨u,hu,e⟩:=List.mem_map.1 ((hm _).1 (List.mem_map_of_mem ht))
   simp only[kj,Prod.mk.injEq]at e
   rw[←e.2.2,←e.1]
   exact h.rows u hu r
theorem jh.has{G:List GT}{gv:Nat→Bool}(h:jh G gv){p:ByteArray}{n:Nat}(hp:(p,n)∈oj):∃t,t∈G∧t.nm=p∧t.pl=n:=by
 obtain⟨t,ht,e⟩:=List.mem_map.1 ((h.mS _).2 hp)
 simp only[oI,Prod.mk.injEq]at e
 exact⟨t,ht,e⟩
theorem jh.len{G:List GT}{gv:Nat→Bool}(h:jh G gv)(hn:(G.map GT.nm).Nodup):G.length≤3:=by
 have hs:G.map GT.nm ⊆ oj.map Prod.fst:=by
  intro x hx
  obtain⟨t,ht,rfl⟩:=List.mem_map.1 hx
  exact List.mem_map.2 ⟨oI t,(h.mS _).1 (List.mem_map_of_mem ht),rfl⟩
 have:=List.Nodup.length_le_of_subset hn hs
 simpa [oj]using this
theorem Kc{L:List (List ByteArray)}(h:Tb.Ord L):L.Nodup:=List.Pairwise.imp (fun {a b} pS e=>by subst e;rw[Tb.ky]at pS;omega) h
theorem J6(G:List GT):fh G=(G.flatMap fun t=>t.L.map fun r=>(t.nm,r)).length:=by
 induction G with
 | nil=>rfl
 | cons t G ih=>
  unfold fh at ih ⊢
  rw[List.map_cons,List.sum_cons,List.flatMap_cons,List.length_append,ih,List.length_map]
theorem jh.sum{G:List GT}{gv:Nat→Bool}(h:jh G gv)(hn:(G.map GT.nm).Nodup)(ho:∀t,t∈G→Tb.Ord t.L):fh G≤36:=by
 rw[J6]
 have vz:(G.flatMap fun t=>t.L.map fun r=>(t.nm,r)).Nodup:=by
  unfold List.Nodup
  rw[List.pairwise_flatMap]
  refine⟨?_, ?_⟩
  · intro t ht
    have:=Kc (ho t ht)
    rw[List.pairwise_map]
    exact List.Pairwise.imp (fun {a b} pS e=>pS (by simpa using e)) this
  · have FK:G.Pairwise fun a b=>a.nm≠b.nm:=List.pairwise_map.1 hn
    refine List.Pairwise.imp ?_ FK
    intro a b pS x hx y hy e
    obtain⟨r,_,rfl⟩:=List.mem_map.1 hx
    obtain⟨q,_,rfl⟩:=List.mem_map.1 hy
    exact pS (by simpa using(congrArg Prod.fst e))
 have hs:(G.flatMap fun t=>t.L.map fun r=>(t.nm,r)) ⊆ (List.range 36).map En.uF:=by
  intro x hx
  obtain⟨t,ht,hx⟩:=List.mem_flatMap.1 hx
  obtain⟨r,hr,rfl⟩:=List.mem_map.1 hx
  obtain⟨i,hi,_,e⟩:=(h.rows t ht r).1 hr
  exact List.mem_map.2 ⟨i,by simpa using hi,e⟩
 have:=List.Nodup.length_le_of_subset vz hs
 simpa using this
theorem jh.cQ{G:List GT}{gv:Nat→Bool}(h:jh G gv)(hn:(G.map GT.nm).Nodup){Q:List Pd.Pr}(hQ:∀p,p∈Q↔p∈oj)(f:En.bE):f∈cQ Q G↔En.gF gv f:=by
 unfold Go.Proofs.YtdmicblafmhflaaGreatDoor.cQ En.gF
 rw[List.mem_flatMap]
 constructor
 · rintro⟨p,hp,hf⟩
   obtain⟨r,hr,rfl⟩:=List.mem_map.1 hf
   obtain⟨t,ht,e,_⟩:=h.has (p:=p.1) (n:=p.2) ((hQ p).1 hp)
   rw[←e,gB hn ht]at hr
   obtain⟨i,hi,hg,e2⟩:=(h.rows t ht r).1 hr
   exact⟨i,hi,hg,by rw[e2,e]⟩
 · rintro⟨i,hi,hg,rfl⟩
   have hp:=te hi
   obtain⟨t,ht,e,_⟩:=h.has hp
   refine⟨_,(hQ _).2 hp,List.mem_map.2 ⟨Tb.dh (cP i).2, ?_,(tR i).symm⟩⟩
   show Tb.dh (cP i).2∈rowsOf G (cP i).1
   rw[←e,gB hn ht]
   exact(h.rows t ht _).2 ⟨i,hi,hg,by rw[tR,e]⟩
theorem oX{rs:List Ax.aP}{kl:List Ax.aM}(he:rs.map Ax.ke=Ax.gR kl){G:List GT}{gv:Nat→Bool}(h:jh G gv)(hn:(G.map GT.nm).Nodup){Q:List Pd.Pr}(hQ:∀p,p∈Q↔p∈aS rs):
 ∃s,cg rs (cQ Q G)=some s∧En.Inv (En.sR (En.cF kl)) (En.gF gv) s s.found.length:=by
 have PD:rs.map En.cp=En.sR (En.cF kl):=En.qn he
 have cB:=En.mi kl
 have hi:=En.Bf (rs.map En.cp) (by rw[PD];exact En.Cy cB) (Go.Proofs.YtdmicblafmhflaaGreatDoor.cQ Q G)
 have l6:(fun f=>f∈Go.Proofs.YtdmicblafmhflaaGreatDoor.cQ Q G)=En.gF gv:=funext fun f=>propext (h.cQ hn (fun p=>(hQ p).trans (fu he p)) f)
 rw[l6,←En.pz,PD]at hi
 obtain⟨s,hs⟩:=En.EU cB hi 202 (by omega)
 refine⟨s, ?_,En.qB (En.Cy cB) 202 0 _ s hi (Nat.zero_le _) hs⟩
 unfold cg mstart
 rw[PD]
 exact hs
def jR(gv:Nat→Bool)(i:Nat)(b:Bool):Nat→Bool:=fun j=>if j=i then b else gv j
end
/- Engine.row. -/
section
open Go.RowKit Go.Maps Go.WideMaps Go.WideElems
theorem kh.Wc{w:World}{mb:Nat}{m:List (ByteArray×Nat)}(h:kh w mb m){p:ByteArray}{g:Nat}(hl:Ax.look m p=some g)(hp:p.size≤1000000){t e:TypeId}(ht:Tryz.prog.underlying t=some (.map 9 e))(hz:(zeroValue e).run Tryz.prog w=.ok (.pointer none) w):
 (Instr.lookup t (.map (some mb)) (.string p) true).run Tryz.prog w=.ok (.tuple #[.pointer (some ⟨g,0,none⟩),.bool true]) w:=by
 obtain⟨n,D,aj,hn,hD⟩:=h.has
 obtain⟨v,ps,OE,hv⟩:=aj.look_ok Tryz.gD ht hz (zd:=.lit (.int .i64 (-1))) (zp:=[]) rfl (key:=.string p) (kl:=aY p) (keyOf_string_mk Tryz.underlying9 (by unfold maxLen;omega))
 rw[(hD p).2 g hl]at hv
 have hh:=(hD p).1
 rw[hl]at hh
 rw[OE,oz hv,hh]
 rfl
theorem Oq(w:World)(eg hm g pl:Nat)(m:List (ByteArray×Nat))(p:ByteArray)(names:List ByteArray)(av:Value)(uP:w.cell? ⟨eg,3,none⟩=some (.map (some hm)))(hM:kh w hm m)(hl:Ax.look m p=some g)(hp:p.size≤1000000)
 (hc:w.cell? ⟨g,1,none⟩=some (.int .i64 pl))(hv:w.ownsRow 0 9 1 av names.length (strCells names))(hlen:names.length=pl)(h3:names.length≤3)(hn:∀a,a∈names→Ax.cf a=true)(hs:∀a,a∈names→a.size≤1000)(hT:fw w):
 Calls Tryz.prog 41 #[.pointer (some ⟨eg,0,none⟩),.agg #[.string p,av]] w fun e w'=>e=.returned (.tuple #[.agg (Tb.dE names),.bool true])∧Below w.heap.size w w':=by
 subst hlen
 obtain⟨ad,ac,xq⟩:=ah hv
 subst xq
 obtain⟨w0,di⟩:∃w0,w0=(w.alloc (.cells #[.string p,.slice ad names.length ac] 48)).alloc (.cells #[.string ⟨#[]⟩,.string ⟨#[]⟩,.string ⟨#[]⟩] 119):=⟨_,rfl⟩
 have bK:Below w.heap.size w w0:=by rw[di];exact((Below.refl _ _).alloc (Nat.le_refl _) _).alloc (by simp) _
 have nD:w0.heap[w.heap.size]?=some (.cells #[.string p,.slice ad names.length ac] 48 (0,0)):=by rw[di,Below.heap_alloc _ _ _ (by simp)];exact heap_alloc_new w _
 have fA:w0.heap[w.heap.size+1]?=some (.cells #[.string ⟨#[]⟩,.string ⟨#[]⟩,.string ⟨#[]⟩] 119 (0,0)):=by rw[di];exact pN w _ _
 have t0:w0.cell? ⟨w.heap.size,0,none⟩=some (.string p):=by rw[cell_of_row _ _ _ _ _ _ nD];rfl
 have t1:w0.cell? ⟨w.heap.size,1,none⟩=some (.slice ad names.length ac):=by rw[cell_of_row _ _ _ _ _ _ nD];rfl
 have e3:w0.cell? ⟨eg,3,none⟩=some (.map (some hm)):=by rw[bK.cell (block_lt_of_cell uP)];exact uP
 have oe:∀W:World,Below w.heap.size w W→(Instr.lookup 103 (.map (some hm)) (.string p) true).run Tryz.prog W=.ok (.tuple #[.pointer (some ⟨g,0,none⟩),.bool true]) W:=fun W hW=>(hM.below hW).Wc hl hp Tryz.underlying103 (Tryz.zeroValue97 W)
 have agJ:=oe w0.drew bK.drew
 have LP:Hid (∀W,Below w0.heap.size w0 W→Calls Tryz.prog 74 #[.pointer (some ⟨g,0,none⟩),.slice ad names.length ac] W fun e w5=>e=.returned (.tuple #[.agg (Tb.dE names),.bool true])∧Hid (Below w.heap.size w w5∧w5.heap[w.heap.size+1]?=some (.cells #[.string ⟨#[]⟩,.string ⟨#[]⟩,.string ⟨#[]⟩] 119 (0,0)))∧w5.cell? ⟨w.heap.size,1,none⟩=some (.slice ad names.length ac)∧
  (∀o,o<3→(w5.cell? ⟨w.heap.size+1,o,none⟩)=some (.string ⟨#[]⟩))∧∀o,w5.frozen? ⟨w.heap.size+1,o,none⟩=false):=by
  intro W hW
  have sK:Below w.heap.size w W:=bK.trans (hW.mono bK.size)
  refine(Je W g names.length names _ (by rw[sK.cell (block_lt_of_cell hc)];exact hc) (af hv sK) rfl h3 hn hs (Utf8Tabs_below hT sK)).mono ?_
  rintro e w5 ⟨rfl,hb⟩
  have ls:Below w0.heap.size w0 w5:=hW.trans (hb.mono hW.size)
  have h5:w5.heap[w.heap.size+1]?=some (.cells #[.string ⟨#[]⟩,.string ⟨#[]⟩,.string ⟨#[]⟩] 119 (0,0)):=by rw[ls.block _ (lt_of_heap fA)];exact fA
  refine⟨rfl,⟨bK.trans (ls.mono bK.size),h5⟩,by rw[ls.cell (block_lt_of_cell t1)];exact t1, ?_, ?_⟩
  · intro o ho
    rw[cell_of_row _ _ _ _ _ _ h5]
    match o,ho with
    | 0,_=>rfl
    | 1,_=>rfl
    | 2,_=>rfl
  · intro o
    simp[World.frozen?,h5]
 have Nz:=block_lt_of_cell uP
 have mh:=block_lt_of_cell hc
 have bV:Tb.dE names=#[.string (Tb.eh names 0),.string (Tb.eh names 1),.string (Tb.eh names 2)]:=rfl
 rw[bV]at LP ⊢
 generalize Tb.eh names 0=x0 at LP ⊢
 generalize Tb.eh names 1=x1 at LP ⊢
 generalize Tb.eh names 2=x2 at LP ⊢
 clear oe hM hv hn hs hT uP hc nD bV fA
 go_enter Tryz.func41,Tryz.ntmps41
 go_wp2_with fail
 rw[←di]
 clear di
 go_region
 go_wp2_with fail
 go_region_held3 (fun w'=>w'.cell? ⟨w.heap.size,1,none⟩=some (.slice ad names.length ac)) (go_keep) ((go_at_call 74;refine(LP.out _ (by exact(Below.refl _ _).drew.drew)).mono ?_;rintro e w5 ⟨rfl,Yg,d1,dc,df⟩;have d00:=dc 0 (by omega);have d01:=dc 1 (by omega);have d02:=dc 2 (by omega);have df0:=df 0;have df1:=df 1;have df2:=df 2))
 all_goals
  go_wp2_with fail
  refine bodyPost_ret (v:=.tuple #[.agg #[.string x0,.string x1,.string x2],.bool true]) ?_ rfl ⟨rfl,((Yg.out.1.setCell (p:=⟨w.heap.size+1,0,none⟩) (by simp) _).setCell (p:=⟨w.heap.size+1,1,none⟩) (by simp) _).setCell (p:=⟨w.heap.size+1,2,none⟩) (by simp) _⟩
  refine Eq.trans (ba rfl _ _ _ _ _ _ _ rfl (vY Yg.out.2 _ _ _) Tryz.underlying119 rfl (by kernel_rfl)) ?_
  rfl
end
/- Engine.Ask. -/
section
open Go.RowKit Go.Maps
theorem DA(names:List ByteArray):Tb.dE names=#[.string (Tb.eh names 0),.string (Tb.eh names 1),.string (Tb.eh names 2)]:=rfl
end
end Go.Proofs.YtdmicblafmhflaaGreatDoor
