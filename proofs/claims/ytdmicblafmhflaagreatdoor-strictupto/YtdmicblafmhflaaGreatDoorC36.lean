/- Engine.Apply, walked. -/
import Derived.Test.YtdmicblafmhflaaGreatDoorC35
import Derived.Test.YtdmicblafmhflaaGreatDoorC11
import Derived.Test.YtdmicblafmhflaaGreatDoorC10
set_option linter.unusedSimpArgs false
set_option linter.unusedVariables false
set_option maxHeartbeats 4000000
set_option maxRecDepth 100000
namespace Go.Proofs.YtdmicblafmhflaaGreatDoor
section
open Go.RowKit Go.Maps
structure yP(w:World)(eg:Nat)(hd:List UInt8)(lg:List Value)(lv:Value):Prop where
 at_:∃pl rv gm hm,w.heap[eg]?=some (.cells (bH pl rv gm hm hd lv) 109 (0,0))
 NY:hd.length=32
 log:w.ownsRow 0 5 1 lv lg.length lg
theorem yP.below{w w':World}{eg:Nat}{hd:List UInt8}{lg:List Value}{lv:Value}(h:yP w eg hd lg lv)(hb:Below w.heap.size w w'):yP w' eg hd lg lv:=by
 obtain⟨pl,rv,gm,hm,e⟩:=h.at_
 exact⟨⟨pl,rv,gm,hm,by rw[hb.block _ (lt_of_heap e)];exact e⟩,h.NY,af h.log hb⟩
theorem Ik:∀{a b:List UInt8},Rc.bB a=Rc.bB b→a=b
 | [],[],_=>rfl
 | [],_::_,h=>by simp[Rc.bB]at h
 | _::_,[],h=>by simp[Rc.bB]at h
 | x::a,y::b,h=>by
  simp only[Rc.bB,List.map_cons,List.cons.injEq,Value.int.injEq,true_and]at h
  have h1:x=y:=by
   apply UInt8.toNat_inj.1
   have:=h.1
   omega
  rw[h1,Ik (a:=a) (b:=b) h.2]
theorem DE{pl pl':ByteArray}{rv rv':Value}{gm gm' hm hm':Nat}{hd AY:List UInt8}{lv Jm:Value}(h:hd.length=32)(h':AY.length=32)(e:bH pl rv gm hm hd lv=bH pl' rv' gm' hm' AY Jm):hd=AY∧lv=Jm:=by
 unfold bH at e
 have e1:=congrArg Array.toList e
 simp only[List.cons_append,List.nil_append,List.cons.injEq]at e1
 obtain⟨_,_,_,_,e2⟩:=e1
 have e3:=List.append_inj e2 (by rw[Rc.bC,Rc.bC,h,h'])
 exact⟨Ik e3.1,by simpa using e3.2⟩
theorem CV{w:World}{B C:Nat}{e:TypeId}{v:Value}{n m:Nat}{xs ys:List Value}(h:w.ownsRow B e 1 v n xs)(k:w.ownsRow C e 1 v m ys):n=m∧xs=ys:=by
 rcases h.2 with⟨e1,e2⟩ | ⟨g,cap,cur,e1,_,hg,_,_,_,ht⟩
 · rcases k.2 with⟨f1,f2⟩ | ⟨g',G1,oJ,f1,_⟩
   · have h1:=h.1
     have k1:=k.1
     have hx:xs=[]:=List.eq_nil_of_length_eq_zero (by omega)
     have hy:ys=[]:=List.eq_nil_of_length_eq_zero (by omega)
     exact⟨by omega,by rw[hx,hy]⟩
   · rw[e1]at f1
     cases f1
 · rcases k.2 with⟨f1,f2⟩ | ⟨g',G1,oJ,f1,_,W9,_,_,_,oh⟩
   · rw[e1]at f1
     cases f1
   · rw[e1]at f1
     simp only[Value.slice.injEq,Option.some.injEq,Addr.mk.injEq,and_true]at f1
     obtain⟨rfl,rfl,_⟩:=f1
     rw[hg]at W9
     simp only[Option.some.injEq,Obj.cells.injEq,and_true]at W9
     subst W9
     exact⟨rfl,ht.symm.trans oh⟩
def CW(K:Nat→Int)(w w':World)(eg:Nat)(ct:ByteArray):Prop:=∀hd lg lv,yP w eg hd lg lv→∃Jm,yP w' eg (oY K hd ct) (lg++Rc.bB (Rc.aL ct++oY K hd ct)) Jm∧Kb (eg::lv.ownBlock.toList) w w'∧cn w lv Jm
def pR(w:World)(B eg:Nat)(kl:List Ax.aM)(gv:Nat→Bool)(n f:Nat):Prop:=∀(S:List Nat) (W:World),Kb S w W→(∀b,b∈S→∃(cur:Array Value) (t:TypeId) (fz:Nat×Nat),w.heap[b]?=some (.cells cur t fz)∧(t=43∨(t=3∨t=9)∧b<f))→yU W B eg kl gv n
theorem pR.Wp{w:World}{B eg:Nat}{kl:List Ax.aM}{gv:Nat→Bool}{n f:Nat}(h:pR w B eg kl gv n f):yU w B eg kl gv n:=h [] w (Kb.refl _ _) (fun b hb=>by cases hb)
theorem Sd{w:World}{B eg:Nat}{kl:List Ax.aM}{gv:Nat→Bool}{n f:Nat}{pl:ByteArray}{rd:Option Addr}{rc:Nat}{l:List MR}{gm:Nat}{G:List GT}{hm:Nat}{T:List HT}{s:En.cU En.bE}{hd:List UInt8}{lv:Value}{ln:Nat}{lx:List Value}
 (eb:w.heap[eg]?=some (.cells (bH pl (.slice rd l.length rc) gm hm hd lv) 109 (0,0)))(dQ:aB w rd rc l)(he:(l.map MR.ak).map Ax.ke=Ax.gR kl)(hG:jY w gm G)(hR:jh G gv)(hH:p5 w hm T s)(hI:En.Inv (En.sR (En.cF kl)) (En.gF gv) s s.found.length)(hT:∀p,p∈T.map iR↔p∈oj)(cN:hd.length=32)(va:w.ownsRow B 5 1 lv ln lx)(Dc:ln≤1000*n)(lu:pl=Ax.aH kl)(ge:B≤eg)(hf:∀y,y∈cA hm T→f≤y):pR w B eg kl gv n f:=by
 intro S W hk hS
 have jO:∀(b:Nat) (cur:Array Value) (t:TypeId) (fz:Nat×Nat),w.heap[b]?=some (.cells cur t fz)→t≠43→(t≠3∨f≤b)→t≠9→¬b∈S:=by
  intro b cur t fz e h1 h2 h3 hm
  obtain⟨oJ,t',fz',e2,ht⟩:=hS b hm
  rw[e]at e2
  simp at e2
  obtain⟨_,e3,_⟩:=e2
  subst e3
  rcases ht with ht | ⟨ht | ht,aC⟩
  · exact h1 ht
  · rcases h2 with h2 | h2
    · exact h2 ht
    · omega
  · exact h3 ht
 have Hi:∀(b:Nat) (o:Obj),w.heap[b]?=some o→(∀cur t fz,o≠ .cells cur t fz)→¬b∈S:=by
  intro b o e h1 hm
  obtain⟨oJ,t',fz',e2,_⟩:=hS b hm
  rw[e]at e2
  exact h1 _ _ _ (Option.some.inj e2)
 refine⟨⟨pl,rd,rc,l,gm,G,hm,T,s,hd,lv,ln,lx,hk.heap eb (jO _ _ _ _ eb (by decide) (.inl (by decide)) (by decide)),dQ.kept hk ?_,he,hG.kept hk ?_,hR,hH.kept hk ?_,hI,hT,cN,hk.ie va ?_,Dc,lu⟩,ge⟩
 · intro b cur U hb e
   refine⟨?_, ?_, ?_⟩<;>(rintro rfl;exact jO b _ _ _ e (by decide) (.inl (by decide)) (by decide) hb)
 · intro b hb
   unfold ev at hb
   rcases List.mem_cons.1 hb with rfl | hb
   · obtain⟨es,ck,e⟩:=hG.map.block
     exact Hi _ _ e (fun _ _ _ h=>by cases h)
   · obtain⟨u,hu,hb⟩:=List.mem_flatMap.1 hb
     obtain⟨cur,U,e,hU⟩:=(hG.bX u hu).types hb
     refine jO _ _ _ _ e ?_ (.inl ?_) ?_<;>(rcases hU with rfl | rfl<;>decide)
 · intro b hb
   have Xh:=hf b hb
   unfold cA at hb
   rcases List.mem_cons.1 hb with rfl | hb
   · obtain⟨es,ck,e⟩:=hH.map.block
     exact Hi _ _ e (fun _ _ _ h=>by cases h)
   · obtain⟨u,hu,hb⟩:=List.mem_flatMap.1 hb
     obtain⟨cur,U,e,hU⟩:=(hH.bX u hu).types hb
     refine jO _ _ _ _ e ?_ (.inr Xh) ?_<;>(rcases hU with rfl | rfl | rfl<;>decide)
 · intro b cur fz hb e
   exact jO b _ _ _ e (by decide) (.inl (by decide)) (by decide) hb
theorem Nu(K:Nat→Int)(w:World)(B eg:Nat)(kl:List Ax.aM)(gv:Nat→Bool)(n:Nat)(hE:yU w B eg kl gv n)(hn:n≤2000000)(hK:Dg.C4 w K)(hU:fw w)
 (cd:Option Addr)(cc:Nat)(dO:List FI)(gd:Option Addr)(gc:Nat)(gone:List FI)(PX:dN w cd cc dO)(PH:dN w gd gc gone)(ci gi:List Nat)(Uv:mM dO ci)(RH:mM gone gi)(vE:dO.length≤30)(mh:gone.length≤30):
 Calls Tryz.prog 38 #[.pointer (some ⟨eg,0,none⟩),.slice cd dO.length cc,.slice gd gone.length gc] w fun e w'=>e=.returned (.int .i64 0)∧yU w' B eg kl (aq (aq gv ci true) gi false) (n+1)∧qC w w'∧Below B w w'∧CW K w w' eg ⟨(Rc.fK dO gone).toArray⟩∧pR w' B eg kl (aq (aq gv ci true) gi false) (n+1) w.heap.size:=by
 obtain⟨pl,rd,rc,l,gm,G,hm,T,s,hd,lv,ln,lx,eb,dQ,he,hG,hR,hH,hI,hT,cN,va,Dc,DY⟩:=hE.at_
 have HPN:Hid (pl=Ax.aH kl):=DY
 have HEL:Hid (w.heap[eg]?=some (.cells (bH pl (.slice rd l.length rc) gm hm hd lv) 109 (0,0))∧w.ownsRow B 5 1 lv ln lx∧hd.length=32):=⟨eb,va,cN⟩
 clear DY
 have hBe:=hE.ge
 obtain⟨k0,k1,k2,k3,k4,k5⟩:=oW eb cN
 have Nz:=lt_of_heap eb
 generalize UM:aq (aq gv ci true) gi false=Te
 have UK:Hid (Calls Tryz.prog 68 #[.pointer (some ⟨eg,0,none⟩),.slice cd dO.length cc,.slice gd gone.length gc] w fun e w'=>∃gm',e=.returned (.tuple #[.map (some gm'),.bool true])∧Hid (yS w w' gm' Te)):=by
  refine(Fs w eg gm hm G gv T s k2 k3 hG hR hH hT hU cd cc dO gd gc gone PX PH ci gi Uv RH (by omega) (by omega)).mono ?_
  rintro e w' ⟨gm',rfl,h⟩
  rw[UM]at h
  exact⟨gm',rfl,h⟩
 obtain⟨ct,Qt⟩:∃ct:ByteArray,ct=⟨(Rc.fK dO gone).toArray⟩:=⟨_,rfl⟩
 have ad4:ct.size≤602:=by
  have:=Dz Uv RH vE mh
  rw[Qt]
  exact this
 have Sz:Hid (∀W,Below w.heap.size w W→Calls Tryz.prog 69 #[.slice cd dO.length cc,.slice gd gone.length gc] W fun e w'=>e=.returned (.string ct)∧Below W.heap.size W w'):=by
  intro W hW
  rw[Qt]
  exact EJ W cd cc dO gd gc gone (PX.below hW) (PH.below hW) (Uv.small vE) (RH.small mh)
 obtain⟨sZ,Q7⟩:∃sZ,sZ=oY K hd ct:=⟨_,rfl⟩
 have iz:sZ.length=32:=by rw[Q7];exact KA _ _ _
 have Wy:Hid (sZ=oY K hd ct):=Q7
 have adu:Hid (ct=⟨(Rc.fK dO gone).toArray⟩):=Qt
 have HHE:Hid (∀w1 b W,Below w.heap.size w w1→AI w1 b W→Calls Tryz.prog 70 #[.agg (Rc.bB hd).toArray,.string ct] W fun e w'=>e=.returned (.agg (Rc.bB sZ).toArray)∧AI w1 b w'):=by
  intro w1 b W sP hW
  rw[Q7]
  refine(Gp K W hd ct (hK.below (sP.trans (hW.be.mono sP.size))) cN (by omega)).mono ?_
  rintro e w' ⟨rfl,hb⟩
  exact⟨rfl,hW.below hb⟩
 have Hx:Hid (∀w1 gm' b W,yS w w1 gm' Te→AI w1 b W→Calls Tryz.prog 57 #[.agg #[.string pl,.slice rd l.length rc],.map (some gm'),.agg (Rc.bB sZ).toArray] W fun e w'=>∃hm',e=.returned (.tuple #[.agg (aI pl (.slice rd l.length rc) gm' hm' sZ),.bool true])∧ve (aI pl (.slice rd l.length rc) gm' hm' sZ) b w'∧AE w1 kl Te hm' b w'):=by
  intro w1 gm' b W hC hW
  obtain⟨N,g1,g2,g3⟩:=hC.at_
  have sK:Below w.heap.size w W:=hC.be.trans (hW.be.mono hC.be.size)
  have PI:=g1.below hW.be
  obtain⟨C5,_,CS⟩:=xe (dQ.below sK) he
  have cL:l≠[]:=by
   rintro rfl
   simp[Ax.gR,Ax.re]at he
  have cB:∀Q,Pd.lX Q→(∀p,p∈Q↔p∈aS (l.map MR.ak))→∃s,cg (l.map MR.ak) (cQ Q N)=some s∧En.Inv (En.sR (En.cF kl)) (En.gF Te) s s.found.length:=fun Q _ hQ=>oX he g2 g1.names hQ
  refine(Ep W _ rd rc l C5 CS (Ck he) cL (fun p hp=>Nat.le_trans (iX p ((fu he p).1 hp)) (by decide)) gm' N PI ?_ (Nat.le_trans (g2.sum g1.names (fun t ht=>cl.ord (g1.bX t ht))) (by decide)) sZ iz ?_).mono ?_
  · intro p hp
    obtain⟨t,ht,e,_⟩:=g2.has (p:=p.1) (n:=p.2) ((fu he p).1 hp)
    rw[←e]
    exact List.mem_map_of_mem ht
  · intro Q h1 h2
    obtain⟨s,e,_⟩:=cB Q h1 h2
    rw[e]
    rfl
  · rintro e w' ⟨hm',T',s',Q,rfl,m1,m2,m3,m4,m5,m6,m7⟩
    have h2:=hW.below m7
    obtain⟨s2,e1,e2⟩:=cB Q m1 m2
    have hs:s2=s':=by
     rw[m3]at e1
     exact(Option.some.inj e1).symm
    subst hs
    refine⟨hm',rfl,Py h2 (aQ _ _ _ _ iz) (gV _ _ _ _ _ _ _),h2,T',s2,m4,e2, ?_, ?_⟩
    · intro p
      rw[m5,List.mem_reverse,m2]
      exact fu he p
    · refine⟨fun x hx y hy=> ?_,fun y hy=>Nat.le_trans hW.be.size (m6 y hy)⟩
      obtain⟨_,Z,k2,_⟩:=hW.da x hx
      have k3:=lt_of_heap k2
      have:=m6 y hy
      omega
 have HEB:Hid (w.heap[eg]?=some (.cells (bH pl (.slice rd l.length rc) gm hm hd lv) 109 (0,0))):=eb
 have Zc:Hid (aB w rd rc l):=dQ
 have HE:Hid ((l.map MR.ak).map Ax.ke=Ax.gR kl):=he
 have HLG:Hid (w.ownsRow B 5 1 lv ln lx):=va
 have hlen:dO.length+gone.length≤60:=by omega
 have TN:=aZ PX.row
 have Tc:=aZ PH.row
 clear hE eb dQ he hG hR hH hI hT va hK hU PX PH Uv RH UM Qt Q7 k4 k5 k2 k3
 go_enter Tryz.func38,Tryz.ntmps38
 go_upto_region 7 with(first | (go_at_call 68;refine UK.out.mono ?_;rintro e w0 ⟨gm',rfl,TF⟩) | (go_at_call 69;refine(Sz.out _ (by exact TF.out.be)).mono ?_;rintro e w1 ⟨rfl,bk⟩))
 have HC1:Hid (yS w w1 gm' Te):=TF.out.below bk
 have mQ:Hid (Below w.heap.size w w1):=HC1.out.be
 have hA1:AI w1 none w1:=⟨Below.refl _ _,fun x h=>by cases h⟩
 have zN:Hid (∀W,Below w1.heap.size w1 W→W.cell? ⟨eg,0,none⟩=some (.string pl)∧W.cell? ⟨eg,1,none⟩=some (.slice rd l.length rc)∧W.rangeAt eg 4 (Rc.bB hd)):=by
  intro W hW
  have hb:=mQ.out.trans (hW.mono mQ.out.size)
  have h9:W.heap[eg]?=some (.cells (bH pl (.slice rd l.length rc) gm hm hd lv) 109 (0,0)):=by rw[hb.block _ Nz];exact HEB.out
  obtain⟨q0,q1,q2,q3,q4,q5⟩:=oW h9 cN
  exact⟨q0,q1,q4⟩
 have hu5:=Tryz.underlying105
 have Gg:(Tryz.prog.info? 105).map (·.size)=some (Rc.bB hd).length:=by
  rw[Rc.bC,cN]
  kernel_rfl
 clear UK Sz bk TF
 go_cut [8,10]from 29 (fun v8 v10 wx=>Hid (Y4 w1 kl Te pl (.slice rd l.length rc) gm' sZ v8 v10 wx))
 case first=>
  go_region_held3 (fun W=>W.cell? ⟨eg,0,none⟩=some (.string pl)∧W.cell? ⟨eg,1,none⟩=some (.slice rd l.length rc)∧W.rangeAt eg 4 (Rc.bB hd)) (first | (exact zN.out _ (AI.be (by assumption))) | (exact zN.out _ (AI.be (AI.drew (by assumption)))) | (exact zN.out _ (AI.be (AI.alloc (by assumption) rfl))) | (exact zN.out _ (AI.be (AI.alloc (AI.drew (by assumption)) rfl))) | (exact zN.out _ (AI.be (AE.ai (by assumption)))) | (exact zN.out _ (AI.be (AE.ai (AE.alloc (by assumption) rfl)))) | (exact zN.out _ (AI.stored (AE.ai (by assumption)) (aQ _ _ _ _ iz))) | (exact zN.out _ (AI.stored (AE.ai (AE.alloc (by assumption) rfl)) (aQ _ _ _ _ iz)))) (first | (go_at_call 70;refine(HHE.out _ _ _ mQ.out (by first | assumption | exact AI.drew (by assumption) | exact AI.alloc (by assumption) rfl | exact AI.alloc (AI.drew (by assumption)) rfl)).mono ?_;rintro e wn ⟨rfl,hN⟩) | (go_at_call 57;refine(Hx.out _ _ _ _ HC1.out (by first | assumption | exact AI.drew (by assumption) | exact AI.alloc (by assumption) rfl | exact AI.alloc (AI.drew (by assumption)) rfl)).mono ?_;rintro e wn ⟨hm',rfl,eo,hE⟩;unfold ve at eo;dsimp only at eo;(try simp only[World.size_drew]at eo);have cr:=aQ pl (.slice rd l.length rc) gm' hm' iz))
  all_goals
   (go_wp2_with fail
    go_meet
    first
    | exact AE.cut (by assumption) iz
    | exact AE.cut (AE.alloc (by assumption) rfl) iz)
 case rest=>
  obtain⟨hv8,x,hm',T',s',Vp,pE,hx,hH',Qe,hT',nG,za⟩:=hcut.out
  subst hv8
  subst Vp
  have oq:Below w.heap.size w wc:=mQ.out.trans (nG.mono mQ.out.size)
  have Gq:wc.heap[eg]?=some (.cells (bH pl (.slice rd l.length rc) gm hm hd lv) 109 (0,0)):=by rw[oq.block _ Nz];exact HEB.out
  obtain⟨eo,B6⟩:=Ln (pl':=pl) (rv':=.slice rd l.length rc) (gm':=gm') (hm':=hm') Gq cN iz
  have cr:=aQ pl (.slice rd l.length rc) gm' hm' iz
  have Qu:Hid (wc.there eg 0 (aI pl (.slice rd l.length rc) gm' hm' sZ).size):=by
   intro j hj
   rw[cell_of_row _ _ _ _ _ _ Gq]
   refine⟨?_,by simp[World.frozen?,Gq]⟩
   rw[Nat.zero_add,Array.getElem?_eq_getElem (by rw[sw _ _ _ _ _ cN];omega)]
   rfl
  have mR:Hid ((aI pl (.slice rd l.length rc) gm' hm' sZ).all (·.oneCell')=true):=Array.all_eq_true_iff_forall_mem.2 (fun v hv=>gV _ _ _ _ _ _ _ v (by simpa using hv))
  have oN:Hid ((Tryz.prog.info? 107).map (·.size)=some (aI pl (.slice rd l.length rc) gm' hm' sZ).size):=by
   rw[cr]
   exact(by kernel_rfl:(Tryz.prog.info? 107).map (·.size)=some 36)
  obtain⟨w3,TD⟩:∃w3,w3=wc.setCells eg 0 (aI pl (.slice rd l.length rc) gm' hm' sZ).toList:=⟨_,rfl⟩
  rw[←TD]at eo B6
  have VA:x≠eg:=by have:=mQ.out.size;omega
  have Wd:w3.heap[x]?=some (.cells (aI pl (.slice rd l.length rc) gm' hm' sZ) 107 (0,0)):=B6.heap hx (by simpa using VA)
  obtain⟨_,_,_,_,_,q36⟩:=oW eo iz
  have hr3:w3.rangeAt x 4 (Rc.bB sZ):=by
   intro j v hv
   have hu:(Rc.bB sZ).length=32:=by rw[Rc.bC,iz]
   have hj:j<32:=by rw[←hu];exact(List.getElem?_eq_some_iff.1 hv).1
   rw[cell_of_row _ _ _ _ _ _ Wd]
   unfold aI
   rw[List.getElem?_toArray,List.getElem?_append_right (by simp)]
   simpa using hv
  have Td:qC w w3:=(qC.bG oq).trans (qC.sB B6 Gq)
  have Uz:Below B w w3:=B6.aK (oq.mono (by omega)) (by have:=oq.size;omega) (by simpa using hBe)
  have Xx:Hid (w3.ownsRow B 5 1 lv ln lx):=B6.ie (af HLG.out oq) (fun b cur fz hb e=>by
   simp at hb
   subst hb
   rw[Gq]at e
   simp at e)
  have Q1:Hid (∀W,Below w3.heap.size w3 W→Calls Tryz.prog 71 #[lv,.string ct,.agg (Rc.bB sZ).toArray] W fun e w4=>∃vd vn vc,e=.returned (.slice vd vn vc)∧w4.cell? ⟨eg,36,none⟩=some lv∧w4.frozen? ⟨eg,36,none⟩=false∧w4.rangeAt x 4 (Rc.bB sZ)∧Hid (yU (w4.setCell ⟨eg,36,none⟩ (.slice vd vn vc)) B eg kl Te (n+1)∧qC w (w4.setCell ⟨eg,36,none⟩ (.slice vd vn vc))∧Below B w (w4.setCell ⟨eg,36,none⟩ (.slice vd vn vc))∧CW K w (w4.setCell ⟨eg,36,none⟩ (.slice vd vn vc)) eg ct∧pR (w4.setCell ⟨eg,36,none⟩ (.slice vd vn vc)) B eg kl Te (n+1) w.heap.size)):=by
   intro W hW
   have hBs:B≤W.heap.size:=by have:=hW.size;have:=Uz.size;omega
   refine(Ds B W lv ln lx ct sZ (af Xx.out hW) hBs (by omega) (by omega) iz).mono ?_
   rintro e w4 ⟨v',n',rfl,mK,hkw,hfw⟩
   obtain⟨vd,vc,rfl⟩:=ah mK.own
   have h34:qC w3 w4:=(qC.bG hW).trans (qC.LF mK.Ft mK.be)
   have J4:w4.heap[eg]?=some (.cells (bH pl (.slice rd l.length rc) gm' hm' sZ lv) 109 (0,0)):=mK.Ft eg _ (by rw[hW.block _ (lt_of_heap eo)];exact eo) (by simp) (fun c fz e=>by simp at e)
   have hx4:w4.heap[x]?=some (.cells (aI pl (.slice rd l.length rc) gm' hm' sZ) 107 (0,0)):=h34.heap Wd (iN (by decide) (by decide))
   have TK:=U2 J4 iz (.slice vd n' vc)
   have Nh:Kb [eg] w4 (w4.setCell ⟨eg,36,none⟩ (.slice vd n' vc)):=Kb.setCell w4 ⟨eg,36,none⟩ _
   have h35:qC w3 (w4.setCell ⟨eg,36,none⟩ (.slice vd n' vc)):=h34.trans (qC.sB Nh J4)
   have hc5:qC wc (w4.setCell ⟨eg,36,none⟩ (.slice vd n' vc)):=(qC.sB B6 Gq).trans h35
   have WR:Below B w w4:=(Uz.trans (hW.mono (by have:=Uz.size;omega))).trans mK.be
   obtain⟨N,g1,g2,g3⟩:=HC1.out.at_
   have Uu:CW K w (w4.setCell ⟨eg,36,none⟩ (.slice vd n' vc)) eg ct:=by
    intro hd0 lg lv0 hH
    obtain⟨pl0,rv0,gm0,hm0,e0⟩:=hH.at_
    rw[HEL.out.1]at e0
    simp only[Option.some.injEq,Obj.cells.injEq,and_true]at e0
    obtain⟨rfl,rfl⟩:=DE HEL.out.2.2 hH.NY e0
    obtain⟨VX,hxx⟩:=CV HEL.out.2.1 hH.log
    have hWw:w.heap.size≤W.heap.size:=by have:=hW.size;have:=B6.size;have:=oq.size;omega
    refine⟨.slice vd n' vc,⟨⟨_,_,_,_,by rw[←Wy.out];exact TK⟩,by rw[←Wy.out];exact iz, ?_⟩, ?_,hfw.mono hWw⟩
    · have h7:=Nh.ie mK.own (fun b cur fz hb e=>by
       simp at hb
       subst hb
       rw[J4]at e
       simp at e)
      have h8:=mK.len
      rw[hxx,Wy.out]at h7 h8
      rw[h8]
      exact aN h7 (Nat.zero_le _)
    · have m1:Kb (eg::lv.ownBlock.toList) w wc:=Kb.bG oq _
      have m2:Kb (eg::lv.ownBlock.toList) wc w3:=B6.mono (fun i hi _=>by simp at hi;simp[hi])
      have m3:Kb (eg::lv.ownBlock.toList) w3 W:=Kb.bG hW _
      have m4:Kb (eg::lv.ownBlock.toList) W w4:=hkw.mono (fun i hi _=>by simp at hi;simp[hi])
      have m5:Kb (eg::lv.ownBlock.toList) w4 (w4.setCell ⟨eg,36,none⟩ (.slice vd n' vc)):=Nh.mono (fun i hi _=>by simp at hi;simp[hi])
      exact(((m1.trans m2).trans m3).trans m4).trans m5
   have Xy:=Nh.ie mK.own (fun b cur fz hb e=>by
    simp at hb
    subst hb
    rw[J4]at e
    simp at e)
   have acI:n'≤1000*(n+1):=by
    have h7:=mK.len
    have h8:=Xx.out.1
    have h9:=LB ad4 iz
    rw[List.length_append,Rc.bC]at h7
    omega
   have hEP:=Sd TK ((Zc.out.below oq).VL hc5) HE.out ((g1.below nG).VL hc5) g2 (hH'.VL hc5) Qe hT' iz Xy acI HPN.out hBe (f:=w.heap.size) (fun y hy=>Nat.le_trans mQ.out.size (za y hy))
   refine⟨vd,n',vc,rfl,(oW J4 iz).2.2.2.2.2,by simp[World.frozen?,J4], ?_,hEP.Wp,Td.trans h35,Nh.aK WR (by have:=WR.size;omega) (by simpa using hBe),Uu,hEP⟩
   · intro j v hv
     have hu:(Rc.bB sZ).length=32:=by rw[Rc.bC,iz]
     rw[cell_of_row _ _ _ _ _ _ hx4]
     unfold aI
     rw[List.getElem?_toArray,List.getElem?_append_right (by simp)]
     simpa using hv
  have HX1:Hid (w1.heap.size≤x):=pE
  have XG:(Tryz.prog.info? 105).map (·.size)=some (Rc.bB sZ).length:=by
   rw[Rc.bC,iz]
   kernel_rfl
  have ai8:=lt_of_heap Wd
  have ag2:eg<w3.heap.size:=lt_of_heap eo
  clear hcut hH' Qe hT' za nG oq eo B6 Gq Td Uz Wd HHE Hx zN pE
  go_wp2_with (first | (refine wpList_load_row rfl _ _ rfl x rfl _ _ _ _ hx Tryz.underlying107 rfl (by rw[cr];kernel_rfl) ?_) | (refine wpList_store_mid rfl 107 (.tmp 51) (.tmp 49) rfl eg 0 (aI pl (.slice rd l.length rc) gm' hm' sZ) rfl rfl Qu.out oN.out mR.out ?_))
  rw[←TD]
  clear TD hx
  refine wp_region_noPanic ?_
  refine wp_region_held_drew (S:=fun W=>W.rangeAt x 4 (Rc.bB sZ)) (by kernel_rfl) hr3 (fun cT=> ?_)
  refine wpAnyH_take (i:=0) (v:= ?_) rfl (by kernel_rfl) (by kernel_rfl) (by kernel_rfl) (fun _ _ _ h=>h) (Or.inl ⟨by rfl, ?_⟩) (by assumption) ?_
  rotate_left
  · intro wS jq
    go_simp
    with_reducible rfl
  simp only[Act.put,List.setIfInBounds_toArray,List.set_cons_zero,List.set_cons_succ]
  refine wpAnyH_take (i:=1) (v:= ?_) rfl (by kernel_rfl) (by kernel_rfl) (by kernel_rfl) (fun _ _ _ h=>h) (Or.inl ⟨by rfl, ?_⟩) (by assumption) ?_
  rotate_left
  · intro wS jq
    go_simp
    with_reducible rfl
  simp only[Act.put,List.setIfInBounds_toArray,List.set_cons_zero,List.set_cons_succ]
  refine wpAnyH_take (i:=2) (v:= ?_) rfl (by kernel_rfl) (by kernel_rfl) (by kernel_rfl) (fun _ _ _ h=>h) (Or.inl ⟨by rfl, ?_⟩) (by assumption) ?_
  rotate_left
  · intro wS jq
    go_simp
    with_reducible rfl
  simp only[Act.put,List.setIfInBounds_toArray,List.set_cons_zero,List.set_cons_succ]
  refine wpAnyH_take (i:=3) (v:= ?_) rfl (by kernel_rfl) (by kernel_rfl) (by kernel_rfl) (fun _ _ _ h=>h) (Or.inl ⟨by rfl, ?_⟩) (by assumption) ?_
  rotate_left
  · intro wS jq
    go_simp
    with_reducible rfl
  simp only[Act.put,List.setIfInBounds_toArray,List.set_cons_zero,List.set_cons_succ]
  refine wpAnyH_take (i:=5) (v:= ?_) rfl (by kernel_rfl) (by kernel_rfl) (by kernel_rfl) (fun _ _ _ h=>h) (Or.inl ⟨by rfl, ?_⟩) (by assumption) ?_
  rotate_left
  · intro wS jq
    go_simp
    with_reducible rfl
  simp only[Act.put,List.setIfInBounds_toArray,List.set_cons_zero,List.set_cons_succ]
  refine wpAnyH_take (i:=6) (v:= ?_) rfl (by kernel_rfl) (by kernel_rfl) (by kernel_rfl) (fun _ _ _ h=>h) (Or.inl ⟨by rfl, ?_⟩) (by assumption) ?_
  rotate_left
  · intro wS jq
    go_simp
    with_reducible rfl
  simp only[Act.put,List.setIfInBounds_toArray,List.set_cons_zero,List.set_cons_succ]
  refine wpAnyH_take (i:=7) rfl (by kernel_rfl) (by kernel_rfl) (by kernel_rfl) (fun _ _ _ h=>h) (yieldsIf_load_mid (by rfl) _ _ rfl x 4 rfl (Rc.bB sZ) _ (fun _ h=>h) hu5 rfl XG) (by assumption) ?_
  simp only[Act.put,List.setIfInBounds_toArray,List.set_cons_zero,List.set_cons_succ]
  refine wpAnyH_ready (rs:=[4]) (by kernel_rfl) (by simp) ?_
  refine AllReadyH.cons rfl (fun Kq im=> ?_) AllReadyH.nil
  go_simp
  refine im.out _ _ hr3 (fun Vn=> ?_)
  clear im Kq
  refine wpAnyH_ready (rs:=[8]) (by kernel_rfl) (by simp) ?_
  refine AllReadyH.cons rfl (fun Kq im=> ?_) AllReadyH.nil
  go_simp
  refine(Q1.out _ (by exact(Below.refl _ _).drew)).mono ?_
  rintro e w4 ⟨vd,vn,vc,rfl,c36,f36,hr4,HF⟩
  refine im.out _ _ hr4 (fun ady=> ?_)
  clear im Kq cT Vn
  refine wpAnyH_take (i:=9) (v:= ?_) rfl (by kernel_rfl) (by kernel_rfl) (by kernel_rfl) (fun _ _ _ h=>h) (Or.inl ⟨by rfl, ?_⟩) (by assumption) ?_
  rotate_left
  · intro wS jq
    go_simp
    with_reducible rfl
  simp only[Act.put,List.setIfInBounds_toArray,List.set_cons_zero,List.set_cons_succ]
  refine wpAnyH_take (i:=10) (v:= ?_) rfl (by kernel_rfl) (by kernel_rfl) (by kernel_rfl) (fun _ _ _ h=>h) (Or.inl ⟨by rfl, ?_⟩) (by assumption) ?_
  rotate_left
  · intro wS jq
    go_simp
    with_reducible rfl
  simp only[Act.put,List.setIfInBounds_toArray,List.set_cons_zero,List.set_cons_succ]
  refine wpAnyH_ready (rs:=[11]) (by kernel_rfl) (by simp) ?_
  refine AllReadyH.cons rfl (fun Kq im=> ?_) AllReadyH.nil
  go_simp
  refine im.out _ _ (Em hr4 VA _ _) (fun acd=> ?_)
  clear im Kq
  refine wpAnyH_done (by kernel_rfl) ?_ _
  refine NoPanic.normal ?_
  go_wp2_with fail
  go_ret
  rw[←adu.out]
  exact⟨rfl,HF.out⟩
end
/- What an engine answers of the 36 facts. -/
section
open Go.RowKit Go.Maps
def cnN(kl:List Ax.aM)(gv:Nat→Bool)(i:Nat):Nat:=(if i<4∧(En.c8 (En.cF kl) gv i&&En.c8 (En.cF kl) gv (4+5*i))=true then 1 else 0)+((if i<4∧(En.c8 (En.cF kl) gv i&&En.c8 (En.cF kl) gv (20+5*i))=true then 1 else 0)+((En.cF kl).map fun r=>En.kD (En.gO r (En.c8 (En.cF kl) gv)) i).sum)
def nu(gv:Nat→Bool):Prop:=∀i,36≤i→gv i=false
theorem nu.set{gv:Nat→Bool}(h:nu gv){i:Nat}(hi:i<36)(b:Bool):nu (jR gv i b):=fun j hj=>by
 unfold jR
 rw[if_neg (by omega)]
 exact h j hj
theorem nu.ix{b:Bool}:∀(is:List Nat) {gv:Nat→Bool},nu gv→(∀i,i∈is→i<36)→nu (aq gv is b)
 | [],_,h,_=>h
 | i::is,_,h,hi=>nu.ix is (h.set (hi i (by simp)) b) (fun j hj=>hi j (by simp[hj]))
theorem uR{kl:List Ax.aM}{gv:Nat→Bool}{s:En.cU En.bE}(hI:En.Inv (En.sR (En.cF kl)) (En.gF gv) s s.found.length):s.found.length≤36:=by
 have h1:=En.iU (En.mi kl) hI
 have h2:s.found ⊆ (List.range 36).map En.uF:=by
  intro f hf
  obtain⟨i,hi,e⟩:=En.tm (h1 f hf)
  exact List.mem_map.2 ⟨i,by simpa using hi,e.symm⟩
 have:=List.Nodup.length_le_of_subset hI.nodup h2
 simpa using this
theorem Km{L:List (List ByteArray)}(ho:Tb.Ord L)(f:List ByteArray→Nat)(r:List ByteArray):Tb.Ap L (L.map f) r=if Tb.lO L r=true then f r else 0:=by
 unfold Tb.Ap
 by_cases h:Tb.lO L r=true
 · rw[if_pos h,if_pos h]
   have:=(Tb.fQ ho r).2 (Tb.dM.1 h)
   simp[List.getD,this]
 · rw[if_neg h,if_neg h]
def pq(eg:Nat)(rv:Value)(gv:Nat→Bool):Array Value:=([Value.pointer (some ⟨eg,0,none⟩),rv]++kH gv).toArray
def iE(w:World)(sb eg:Nat)(rv:Value)(gv:Nat→Bool):Prop:=w.heap[sb]?=some (.cells (pq eg rv gv) 43 (0,0))
theorem iE.below{w w':World}{sb eg:Nat}{rv:Value}{gv:Nat→Bool}(h:iE w sb eg rv gv)(hb:Below w.heap.size w w'):iE w' sb eg rv gv:=by
 unfold iE
 rw[hb.block _ (lt_of_heap h)]
 exact h
theorem iE.VL{w w':World}{sb eg:Nat}{rv:Value}{gv:Nat→Bool}(h:iE w sb eg rv gv)(hb:qC w w'):iE w' sb eg rv gv:=hb.heap h (iN (by decide) (by decide))
theorem iE.cells{w:World}{sb eg:Nat}{rv:Value}{gv:Nat→Bool}(h:iE w sb eg rv gv):w.cell? ⟨sb,0,none⟩=some (.pointer (some ⟨eg,0,none⟩))∧w.cell? ⟨sb,1,none⟩=some rv∧∀i,i<36→w.cell? ⟨sb,2+i,none⟩=some (.bool (gv i)):=by
 refine⟨by rw[cell_of_row _ _ _ _ _ _ h];rfl,by rw[cell_of_row _ _ _ _ _ _ h];rfl, ?_⟩
 intro i hi
 rw[cell_of_row _ _ _ _ _ _ h]
 unfold pq
 rw[List.getElem?_toArray,List.getElem?_append_right (by simp)]
 simpa using pv gv hi
theorem yU.below{w w':World}{B eg:Nat}{kl:List Ax.aM}{gv:Nat→Bool}{n:Nat}(h:yU w B eg kl gv n)(hb:Below w.heap.size w w'):yU w' B eg kl gv n:=by
 obtain⟨pl,rd,rc,l,gm,G,hm,T,s,hd,lv,ln,lx,eb,dQ,he,hG,hR,hH,hI,hT,cN,va,Dc,DY⟩:=h.at_
 exact⟨⟨pl,rd,rc,l,gm,G,hm,T,s,hd,lv,ln,lx,by rw[hb.block _ (lt_of_heap eb)];exact eb,dQ.below hb,he,hG.below hb,hR,hH.below hb,hI,hT,cN,af va hb,Dc,DY⟩,h.ge⟩
end
/- axiomkeep: what text calls, as it calls it. -/
section
open Go.RowKit
structure V3(w:World)(g o:Nat)(r:Ax.aM):Prop where
 head:tD w g o r.head
 body:∃bd bn bc,w.cell? ⟨g,o+3,none⟩=some (.slice bd bn bc)∧iB w bd bn bc r.body
structure rZ(w:World)(ad:Option Addr)(n c:Nat)(l:List Ax.aM):Prop where
 len:l.length=n
 cap:n≤c
 max:c≤maxLen
 at_:∀k (h:k<l.length),∃g o,ad=some ⟨g,o,none⟩∧V3 w g (o+k*4) l[k]
theorem wT:∀(ts:List Nat) (i:Nat) (p:ByteArray),(lJ ts i p).size≤p.size+3*ts.length
 | [],_,p=>by simp[lJ]
 | x::l,i,p=>by
  rw[lJ]
  have h:=wT l (i+1) (fW i p x)
  have hx:=EE x
  have hc:(⟨#[44]⟩:ByteArray).size=1:=rfl
  have hs:(fW i p x).size≤p.size+3:=by
   unfold fW
   split
   · rw[ByteArray.size_append,ByteArray.size_append];omega
   · rw[ByteArray.size_append];omega
  rw[List.length_cons]
  omega
theorem wG(p:Nat)(ts:List Nat)(h:ts.length≤2):(uV p ts).size≤12:=by
 unfold uV
 have h1:=wT ts 0 (Ax.cq p++⟨#[40]⟩)
 have h2:=xV p
 have h3:(⟨#[40]⟩:ByteArray).size=1:=rfl
 have h4:(⟨#[41]⟩:ByteArray).size=1:=rfl
 rw[ByteArray.size_append]at h1 ⊢
 omega
theorem rE(a:Ax.dW):∀x,x∈Ax.bT a→x<7:=by
 intro x hx
 have h1:=Ax.ef a.a 7 (by decide)
 have h2:=Ax.ef a.b 7 (by decide)
 unfold Ax.bT at hx
 split at hx
 · simp at hx;omega
 · simp at hx;omega
theorem BA(r:Ax.aM):0<(Ax.eJ r).length∧(Ax.eJ r).length≤2:=by
 unfold Ax.eJ
 rw[List.length_map]
 exact kY r.head
theorem DL(r:Ax.aM):∀x,x∈Ax.eJ r→x<7:=by
 intro x hx
 unfold Ax.eJ at hx
 obtain⟨y,hy,rfl⟩:=List.mem_map.1 hx
 have:=rE r.head y hy
 split<;>omega
def Vh(B:Nat)(w:World)(d:Option Addr)(c:Nat)(ts:List Nat):Prop:=w.ownsRow B 3 1 (.slice d ts.length c) ts.length (aE ts)
theorem Rq{w:World}{ad:Option Addr}{n c:Nat}{r:Ax.aM}(hB:iB w ad n c r.body)(h0:b8 r.head.pred)(h1:b8 r.head.a)(h2:b8 r.head.b)(T:List Nat)(hT:Ax.eJ r=T):∀W,Below w.heap.size w W→
 Calls Tryz.prog 62 #[.agg #[.int .i64 r.head.pred,.int .i64 r.head.a,.int .i64 r.head.b,.slice ad n c]] W fun e w'=>∃d c',e=.returned (.slice d T.length c')∧Vh w.heap.size w' d c' T∧Below w.heap.size w w':=by
 intro W hb
 subst hT
 refine(NW W r ad n c (hB.below hb) h0 h1 h2).mono ?_
 rintro e w' ⟨d,c',rfl,ho,yN⟩
 exact⟨d,c',rfl,aN ho hb.size,hb.trans (yN.mono hb.size)⟩
theorem Mk{w:World}{a:Ax.dW}(h0:b8 a.pred)(h1:b8 a.a)(h2:b8 a.b)(T:List Nat)(hT:Ax.bT a=T):∀W,Below w.heap.size w W→
 Calls Tryz.prog 64 #[.agg #[.int .i64 a.pred,.int .i64 a.a,.int .i64 a.b]] W fun e w'=>∃d c',e=.returned (.slice d T.length c')∧Vh w.heap.size w' d c' T∧Below w.heap.size w w':=by
 intro W hb
 subst hT
 refine(qo W a h0 h1 h2).mono ?_
 rintro e w' ⟨d,c',rfl,ho,yN⟩
 exact⟨d,c',rfl,aN ho hb.size,hb.trans (yN.mono hb.size)⟩
theorem wo{w:World}{p:Int}(hp:b8 p)(T:List Nat)(h2:T.length≤2)(h7:∀x,x∈T→x<7)(A:ByteArray)(hA:uV (Ax.a8 p 3) T=A):∀W d c,Below w.heap.size w W→Vh w.heap.size W d c T→
 Calls Tryz.prog 61 #[.int .i64 p,.slice d T.length c] W fun e w'=>e=.returned (.string A)∧Below w.heap.size w w':=by
 intro W d c hb ho
 subst hA
 refine(DM W p hp _ d c T ho (by omega) h7 _ rfl).mono ?_
 rintro e w' ⟨rfl,yN⟩
 exact⟨rfl,hb.trans (yN.mono hb.size)⟩
theorem R6{w:World}{ad:Option Addr}{n c:Nat}{l:List Ax.dW}(h:iB w ad n c l)(p a b:Int)(m:Nat)(hm:min n 2=m):∀W,Below w.heap.size w W→Calls Tryz.prog 63 #[.agg #[.int .i64 p,.int .i64 a,.int .i64 b,.slice ad n c]] W fun e w'=>e=.returned (.slice ad m c)∧Below w.heap.size w w':=by
 intro W hb
 subst hm
 refine(EL h p a b W).mono ?_
 rintro e w' ⟨rfl,yN⟩
 exact⟨rfl,hb.trans (yN.mono hb.size)⟩
end
end Go.Proofs.YtdmicblafmhflaaGreatDoor
