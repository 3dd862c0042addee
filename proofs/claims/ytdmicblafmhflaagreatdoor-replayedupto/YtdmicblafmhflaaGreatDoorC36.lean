/- Engine.Apply, walked. -/
import Derived.Test.YtdmicblafmhflaaGreatDoorC35
import Derived.Test.YtdmicblafmhflaaGreatDoorC11
import Derived.Test.YtdmicblafmhflaaGreatDoorC10
set_option linter.unusedSimpArgs false
set_option linter.unusedVariables false
set_option maxHeartbeats 4000000
set_option maxRecDepth 100000
namespace Go.Proofs.YtdmicblafmhflaaGreatDoor
section
open Go.RowKit Go.Maps
structure eG(w:World)(eg:Nat)(hd:List UInt8)(lg:List Value)(lv:Value):Prop where
 at_:∃pl rv gm hm,w.heap[eg]?=some (.cells (bE pl rv gm hm hd lv) 109 (0,0))
 K8:hd.length=32
 log:w.ownsRow 0 5 1 lv lg.length lg
theorem eG.below{w w':World}{eg:Nat}{hd:List UInt8}{lg:List Value}{lv:Value}(h:eG w eg hd lg lv)(hb:Below w.heap.size w w'):eG w' eg hd lg lv:=by
 obtain⟨pl,rv,gm,hm,e⟩:=h.at_
 exact⟨⟨pl,rv,gm,hm,by rw[hb.block _ (lt_of_heap e)];exact e⟩,h.K8,ae h.log hb⟩
theorem Hg:∀{a b:List UInt8},Rc.bA a=Rc.bA b→a=b
 | [],[],_=>rfl
 | [],_::_,h=>by simp[Rc.bA]at h
 | _::_,[],h=>by simp[Rc.bA]at h
 | x::a,y::b,h=>by
  simp only[Rc.bA,List.map_cons,List.cons.injEq,Value.int.injEq,true_and]at h
  have h1:x=y:=by
   apply UInt8.toNat_inj.1
   have:=h.1
   omega
  rw[h1,Hg (a:=a) (b:=b) h.2]
theorem oS{pl pl':ByteArray}{rv rv':Value}{gm gm' hm hm':Nat}{hd C8:List UInt8}{lv ql:Value}(h:hd.length=32)(h':C8.length=32)(e:bE pl rv gm hm hd lv=bE pl' rv' gm' hm' C8 ql):hd=C8∧lv=ql:=by
 unfold bE at e
 have e1:=congrArg Array.toList e
 simp only[List.cons_append,List.nil_append,List.cons.injEq]at e1
 obtain⟨_,_,_,_,e2⟩:=e1
 have e3:=List.append_inj e2 (by rw[Rc.bB,Rc.bB,h,h'])
 exact⟨Hg e3.1,by simpa using e3.2⟩
theorem qY{w:World}{B C:Nat}{e:TypeId}{v:Value}{n m:Nat}{xs ys:List Value}(h:w.ownsRow B e 1 v n xs)(k:w.ownsRow C e 1 v m ys):n=m∧xs=ys:=by
 rcases h.2 with⟨e1,e2⟩ | ⟨g,cap,cur,e1,_,hg,_,_,_,ht⟩
 · rcases k.2 with⟨f1,f2⟩ | ⟨g',Ft,jU,f1,_⟩
   · have h1:=h.1
     have k1:=k.1
     have hx:xs=[]:=List.eq_nil_of_length_eq_zero (by omega)
     have hy:ys=[]:=List.eq_nil_of_length_eq_zero (by omega)
     exact⟨by omega,by rw[hx,hy]⟩
   · rw[e1]at f1
     cases f1
 · rcases k.2 with⟨f1,f2⟩ | ⟨g',Ft,jU,f1,_,V6,_,_,_,nX⟩
   · rw[e1]at f1
     cases f1
   · rw[e1]at f1
     simp only[Value.slice.injEq,Option.some.injEq,Addr.mk.injEq,and_true]at f1
     obtain⟨rfl,rfl,_⟩:=f1
     rw[hg]at V6
     simp only[Option.some.injEq,Obj.cells.injEq,and_true]at V6
     subst V6
     exact⟨rfl,ht.symm.trans nX⟩
def xC(K:Nat→Int)(w w':World)(eg:Nat)(ct:ByteArray):Prop:=∀hd lg lv,eG w eg hd lg lv→∃ql,eG w' eg (dO K hd ct) (lg++Rc.bA (Rc.aC ct++dO K hd ct)) ql∧Kb (eg::lv.ownBlock.toList) w w'∧cu w lv ql
def lV(w:World)(B eg:Nat)(kl:List Ax.ay)(gv:Nat→Bool)(n f:Nat):Prop:=∀(S:List Nat) (W:World),Kb S w W→(∀b,b∈S→∃(cur:Array Value) (t:TypeId) (fz:Nat×Nat),w.heap[b]?=some (.cells cur t fz)∧(t=43∨(t=3∨t=9)∧b<f))→nP W B eg kl gv n
theorem lV.KW{w:World}{B eg:Nat}{kl:List Ax.ay}{gv:Nat→Bool}{n f:Nat}(h:lV w B eg kl gv n f):nP w B eg kl gv n:=h [] w (Kb.refl _ _) (fun b hb=>by cases hb)
theorem Q6{w:World}{B eg:Nat}{kl:List Ax.ay}{gv:Nat→Bool}{n f:Nat}{pl:ByteArray}{rd:Option Addr}{rc:Nat}{l:List MR}{gm:Nat}{G:List GT}{hm:Nat}{T:List HT}{s:En.dB En.cg}{hd:List UInt8}{lv:Value}{ln:Nat}{lx:List Value}
 (eb:w.heap[eg]?=some (.cells (bE pl (.slice rd l.length rc) gm hm hd lv) 109 (0,0)))(dN:aI w rd rc l)(he:(l.map MR.aw).map Ax.kX=Ax.gR kl)(hG:lJ w gm G)(hR:fU G gv)(hH:pH w hm T s)(hI:En.Inv (En.sR (En.aj kl)) (En.gF gv) s s.found.length)(hT:∀p,p∈T.map ic↔p∈jI)(bT:hd.length=32)(nU:w.ownsRow B 5 1 lv ln lx)(zn:ln≤1000*n)(lj:pl=Ax.au kl)(ge:B≤eg)(hf:∀y,y∈cK hm T→f≤y):lV w B eg kl gv n f:=by
 intro S W hk hS
 have iM:∀(b:Nat) (cur:Array Value) (t:TypeId) (fz:Nat×Nat),w.heap[b]?=some (.cells cur t fz)→t≠43→(t≠3∨f≤b)→t≠9→¬b∈S:=by
  intro b cur t fz e h1 h2 h3 hm
  obtain⟨jU,t',OO,e2,ht⟩:=hS b hm
  rw[e]at e2
  simp at e2
  obtain⟨_,e3,_⟩:=e2
  subst e3
  rcases ht with ht | ⟨ht | ht,aE⟩
  · exact h1 ht
  · rcases h2 with h2 | h2
    · exact h2 ht
    · omega
  · exact h3 ht
 have G8:∀(b:Nat) (o:Obj),w.heap[b]?=some o→(∀cur t fz,o≠ .cells cur t fz)→¬b∈S:=by
  intro b o e h1 hm
  obtain⟨jU,t',OO,e2,_⟩:=hS b hm
  rw[e]at e2
  exact h1 _ _ _ (Option.some.inj e2)
 refine⟨⟨pl,rd,rc,l,gm,G,hm,T,s,hd,lv,ln,lx,hk.heap eb (iM _ _ _ _ eb (by decide) (.inl (by decide)) (by decide)),dN.kept hk ?_,he,hG.kept hk ?_,hR,hH.kept hk ?_,hI,hT,bT,hk.dV nU ?_,zn,lj⟩,ge⟩
 · intro b cur U hb e
   refine⟨?_, ?_, ?_⟩<;>(rintro rfl;exact iM b _ _ _ e (by decide) (.inl (by decide)) (by decide) hb)
 · intro b hb
   unfold eW at hb
   rcases List.mem_cons.1 hb with rfl | hb
   · obtain⟨es,ck,e⟩:=hG.map.block
     exact G8 _ _ e (fun _ _ _ h=>by cases h)
   · obtain⟨u,hu,hb⟩:=List.mem_flatMap.1 hb
     obtain⟨cur,U,e,hU⟩:=(hG.b8 u hu).types hb
     refine iM _ _ _ _ e ?_ (.inl ?_) ?_<;>(rcases hU with rfl | rfl<;>decide)
 · intro b hb
   have Wo:=hf b hb
   unfold cK at hb
   rcases List.mem_cons.1 hb with rfl | hb
   · obtain⟨es,ck,e⟩:=hH.map.block
     exact G8 _ _ e (fun _ _ _ h=>by cases h)
   · obtain⟨u,hu,hb⟩:=List.mem_flatMap.1 hb
     obtain⟨cur,U,e,hU⟩:=(hH.b8 u hu).types hb
     refine iM _ _ _ _ e ?_ (.inr Wo) ?_<;>(rcases hU with rfl | rfl | rfl<;>decide)
 · intro b cur fz hb e
   exact iM b _ _ _ e (by decide) (.inl (by decide)) (by decide) hb
theorem Dd(K:Nat→Int)(w:World)(B eg:Nat)(kl:List Ax.ay)(gv:Nat→Bool)(n:Nat)(hE:nP w B eg kl gv n)(hn:n≤2000000)(hK:Dg.ui w K)(hU:eY w)
 (cd:Option Addr)(cc:Nat)(cm:List FI)(gd:Option Addr)(gc:Nat)(gone:List FI)(LJ:bM w cd cc cm)(Hi:bM w gd gc gone)(ci gi:List Nat)(Qp:fI cm ci)(QW:fI gone gi)(vl:cm.length≤30)(mO:gone.length≤30):
 Calls Tryz.prog 38 #[.pointer (some ⟨eg,0,none⟩),.slice cd cm.length cc,.slice gd gone.length gc] w fun e w'=>e=.returned (.int .i64 0)∧nP w' B eg kl (ax (ax gv ci true) gi false) (n+1)∧pJ w w'∧Below B w w'∧xC K w w' eg ⟨(Rc.eX cm gone).toArray⟩∧lV w' B eg kl (ax (ax gv ci true) gi false) (n+1) w.heap.size:=by
 obtain⟨pl,rd,rc,l,gm,G,hm,T,s,hd,lv,ln,lx,eb,dN,he,hG,hR,hH,hI,hT,bT,nU,zn,DL⟩:=hE.at_
 have HPN:Hid (pl=Ax.au kl):=DL
 have UP:Hid (w.heap[eg]?=some (.cells (bE pl (.slice rd l.length rc) gm hm hd lv) 109 (0,0))∧w.ownsRow B 5 1 lv ln lx∧hd.length=32):=⟨eb,nU,bT⟩
 clear DL
 have hBe:=hE.ge
 obtain⟨k0,k1,k2,k3,k4,k5⟩:=kt eb bT
 have MH:=lt_of_heap eb
 generalize hgv:ax (ax gv ci true) gi false=Sg
 have Ue:Hid (Calls Tryz.prog 68 #[.pointer (some ⟨eg,0,none⟩),.slice cd cm.length cc,.slice gd gone.length gc] w fun e w'=>∃gm',e=.returned (.tuple #[.map (some gm'),.bool true])∧Hid (uW w w' gm' Sg)):=by
  refine(EH w eg gm hm G gv T s k2 k3 hG hR hH hT hU cd cc cm gd gc gone LJ Hi ci gi Qp QW (by omega) (by omega)).mono ?_
  rintro e w' ⟨gm',rfl,h⟩
  rw[hgv]at h
  exact⟨gm',rfl,h⟩
 obtain⟨ct,LN⟩:∃ct:ByteArray,ct=⟨(Rc.eX cm gone).toArray⟩:=⟨_,rfl⟩
 have ad9:ct.size≤602:=by
  have:=Dk Qp QW vl mO
  rw[LN]
  exact this
 have SU:Hid (∀W,Below w.heap.size w W→Calls Tryz.prog 69 #[.slice cd cm.length cc,.slice gd gone.length gc] W fun e w'=>e=.returned (.string ct)∧Below W.heap.size W w'):=by
  intro W hW
  rw[LN]
  exact DI W cd cc cm gd gc gone (LJ.below hW) (Hi.below hW) (Qp.small vl) (QW.small mO)
 obtain⟨qN,Ry⟩:∃qN,qN=dO K hd ct:=⟨_,rfl⟩
 have ia:qN.length=32:=by rw[Ry];exact Kc _ _ _
 have WI:Hid (qN=dO K hd ct):=Ry
 have acR:Hid (ct=⟨(Rc.eX cm gone).toArray⟩):=LN
 have HHE:Hid (∀w1 b W,Below w.heap.size w w1→AI w1 b W→Calls Tryz.prog 70 #[.agg (Rc.bA hd).toArray,.string ct] W fun e w'=>e=.returned (.agg (Rc.bA qN).toArray)∧AI w1 b w'):=by
  intro w1 b W sI hW
  rw[Ry]
  refine(xE K W hd ct (hK.below (sI.trans (hW.aZ.mono sI.size))) bT (by omega)).mono ?_
  rintro e w' ⟨rfl,hb⟩
  exact⟨rfl,hW.below hb⟩
 have Kf:Hid (∀w1 gm' b W,uW w w1 gm' Sg→AI w1 b W→Calls Tryz.prog 57 #[.agg #[.string pl,.slice rd l.length rc],.map (some gm'),.agg (Rc.bA qN).toArray] W fun e w'=>∃hm',e=.returned (.tuple #[.agg (aO pl (.slice rd l.length rc) gm' hm' qN),.bool true])∧vE (aO pl (.slice rd l.length rc) gm' hm' qN) b w'∧AE w1 kl Sg hm' b w'):=by
  intro w1 gm' b W hC hW
  obtain⟨N,g1,g2,g3⟩:=hC.at_
  have qL:Below w.heap.size w W:=hC.aZ.trans (hW.aZ.mono hC.aZ.size)
  have WA:=g1.below hW.aZ
  obtain⟨CD,_,zK⟩:=iN (dN.below qL) he
  have cA:l≠[]:=by
   rintro rfl
   simp[Ax.gR,Ax.lr]at he
  have dD:∀Q,Pd.vG Q→(∀p,p∈Q↔p∈bP (l.map MR.aw))→∃s,fk (l.map MR.aw) (dm Q N)=some s∧En.Inv (En.sR (En.aj kl)) (En.gF Sg) s s.found.length:=fun Q _ hQ=>ox he g2 g1.names hQ
  refine(ym W _ rd rc l CD zK (nH he) cA (fun p hp=>Nat.le_trans (dP p ((dX he p).1 hp)) (by decide)) gm' N WA ?_ (Nat.le_trans (g2.sum g1.names (fun t ht=>cp.ord (g1.b8 t ht))) (by decide)) qN ia ?_).mono ?_
  · intro p hp
    obtain⟨t,ht,e,_⟩:=g2.has (p:=p.1) (n:=p.2) ((dX he p).1 hp)
    rw[←e]
    exact List.mem_map_of_mem ht
  · intro Q h1 h2
    obtain⟨s,e,_⟩:=dD Q h1 h2
    rw[e]
    rfl
  · rintro e w' ⟨hm',T',s',Q,rfl,m1,m2,m3,m4,m5,m6,m7⟩
    have h2:=hW.below m7
    obtain⟨s2,e1,e2⟩:=dD Q m1 m2
    have hs:s2=s':=by
     rw[m3]at e1
     exact(Option.some.inj e1).symm
    subst hs
    refine⟨hm',rfl,My h2 (aL _ _ _ _ ia) (gE _ _ _ _ _ _ _),h2,T',s2,m4,e2, ?_, ?_⟩
    · intro p
      rw[m5,List.mem_reverse,m2]
      exact dX he p
    · refine⟨fun x hx y hy=> ?_,fun y hy=>Nat.le_trans hW.aZ.size (m6 y hy)⟩
      obtain⟨_,Z,k2,_⟩:=hW.cT x hx
      have k3:=lt_of_heap k2
      have:=m6 y hy
      omega
 have HEB:Hid (w.heap[eg]?=some (.cells (bE pl (.slice rd l.length rc) gm hm hd lv) 109 (0,0))):=eb
 have Zj:Hid (aI w rd rc l):=dN
 have HE:Hid ((l.map MR.aw).map Ax.kX=Ax.gR kl):=he
 have Up:Hid (w.ownsRow B 5 1 lv ln lx):=nU
 have hlen:cm.length+gone.length≤60:=by omega
 have SS:=bh LJ.row
 have S9:=bh Hi.row
 clear hE eb dN he hG hR hH hI hT nU hK hU LJ Hi Qp QW hgv LN Ry k4 k5 k2 k3
 go_enter Tryz.func38,Tryz.ntmps38
 go_upto_region 7 with(first | (go_at_call 68;refine Ue.out.mono ?_;rintro e w0 ⟨gm',rfl,SF⟩) | (go_at_call 69;refine(SU.out _ (by exact SF.out.aZ)).mono ?_;rintro e w1 ⟨rfl,a8⟩))
 have HC1:Hid (uW w w1 gm' Sg):=SF.out.below a8
 have mM:Hid (Below w.heap.size w w1):=HC1.out.aZ
 have hA1:AI w1 none w1:=⟨Below.refl _ _,fun x h=>by cases h⟩
 have yL:Hid (∀W,Below w1.heap.size w1 W→W.cell? ⟨eg,0,none⟩=some (.string pl)∧W.cell? ⟨eg,1,none⟩=some (.slice rd l.length rc)∧W.rangeAt eg 4 (Rc.bA hd)):=by
  intro W hW
  have hb:=mM.out.trans (hW.mono mM.out.size)
  have h9:W.heap[eg]?=some (.cells (bE pl (.slice rd l.length rc) gm hm hd lv) 109 (0,0)):=by rw[hb.block _ MH];exact HEB.out
  obtain⟨q0,q1,q2,q3,q4,q5⟩:=kt h9 bT
  exact⟨q0,q1,q4⟩
 have hu5:=Tryz.underlying105
 have zi:(Tryz.prog.info? 105).map (·.size)=some (Rc.bA hd).length:=by
  rw[Rc.bB,bT]
  kernel_rfl
 clear Ue SU a8 SF
 go_cut [8,10]from 29 (fun v8 v10 wx=>Hid (W9 w1 kl Sg pl (.slice rd l.length rc) gm' qN v8 v10 wx))
 case first=>
  go_region_held3 (fun W=>W.cell? ⟨eg,0,none⟩=some (.string pl)∧W.cell? ⟨eg,1,none⟩=some (.slice rd l.length rc)∧W.rangeAt eg 4 (Rc.bA hd)) (first | (exact yL.out _ (AI.aZ (by assumption))) | (exact yL.out _ (AI.aZ (AI.drew (by assumption)))) | (exact yL.out _ (AI.aZ (AI.alloc (by assumption) rfl))) | (exact yL.out _ (AI.aZ (AI.alloc (AI.drew (by assumption)) rfl))) | (exact yL.out _ (AI.aZ (AE.ai (by assumption)))) | (exact yL.out _ (AI.aZ (AE.ai (AE.alloc (by assumption) rfl)))) | (exact yL.out _ (AI.stored (AE.ai (by assumption)) (aL _ _ _ _ ia))) | (exact yL.out _ (AI.stored (AE.ai (AE.alloc (by assumption) rfl)) (aL _ _ _ _ ia)))) (first | (go_at_call 70;refine(HHE.out _ _ _ mM.out (by first | assumption | exact AI.drew (by assumption) | exact AI.alloc (by assumption) rfl | exact AI.alloc (AI.drew (by assumption)) rfl)).mono ?_;rintro e wn ⟨rfl,hN⟩) | (go_at_call 57;refine(Kf.out _ _ _ _ HC1.out (by first | assumption | exact AI.drew (by assumption) | exact AI.alloc (by assumption) rfl | exact AI.alloc (AI.drew (by assumption)) rfl)).mono ?_;rintro e wn ⟨hm',rfl,eu,hE⟩;unfold vE at eu;dsimp only at eu;(try simp only[World.size_drew]at eu);have cE:=aL pl (.slice rd l.length rc) gm' hm' ia))
  all_goals
   (go_wp2_with fail
    go_meet
    first
    | exact AE.cut (by assumption) ia
    | exact AE.cut (AE.alloc (by assumption) rfl) ia)
 case rest=>
  obtain⟨hv8,x,hm',T',s',Vq,pQ,hx,hH',hI',hT',mZ,zq⟩:=ko.out
  subst hv8
  subst Vq
  have mw:Below w.heap.size w wc:=mM.out.trans (mZ.mono mM.out.size)
  have Fw:wc.heap[eg]?=some (.cells (bE pl (.slice rd l.length rc) gm hm hd lv) 109 (0,0)):=by rw[mw.block _ MH];exact HEB.out
  obtain⟨eu,BG⟩:=Kx (pl':=pl) (rv':=.slice rd l.length rc) (gm':=gm') (hm':=hm') Fw bT ia
  have cE:=aL pl (.slice rd l.length rc) gm' hm' ia
  have HTH:Hid (wc.there eg 0 (aO pl (.slice rd l.length rc) gm' hm' qN).size):=by
   intro j hj
   rw[cell_of_row _ _ _ _ _ _ Fw]
   refine⟨?_,by simp[World.frozen?,Fw]⟩
   rw[Nat.zero_add,Array.getElem?_eq_getElem (by rw[sy _ _ _ _ _ bT];omega)]
   rfl
  have o8:Hid ((aO pl (.slice rd l.length rc) gm' hm' qN).all (·.oneCell')=true):=Array.all_eq_true_iff_forall_mem.2 (fun v hv=>gE _ _ _ _ _ _ _ v (by simpa using hv))
  have Jr:Hid ((Tryz.prog.info? 107).map (·.size)=some (aO pl (.slice rd l.length rc) gm' hm' qN).size):=by
   rw[cE]
   exact(by kernel_rfl:(Tryz.prog.info? 107).map (·.size)=some 36)
  obtain⟨w3,SZ⟩:∃w3,w3=wc.setCells eg 0 (aO pl (.slice rd l.length rc) gm' hm' qN).toList:=⟨_,rfl⟩
  rw[←SZ]at eu BG
  have Vp:x≠eg:=by have:=mM.out.size;omega
  have Sr:w3.heap[x]?=some (.cells (aO pl (.slice rd l.length rc) gm' hm' qN) 107 (0,0)):=BG.heap hx (by simpa using Vp)
  obtain⟨_,_,_,_,_,q36⟩:=kt eu ia
  have Wn:w3.rangeAt x 4 (Rc.bA qN):=by
   intro j v hv
   have hu:(Rc.bA qN).length=32:=by rw[Rc.bB,ia]
   have hj:j<32:=by rw[←hu];exact(List.getElem?_eq_some_iff.1 hv).1
   rw[cell_of_row _ _ _ _ _ _ Sr]
   unfold aO
   rw[List.getElem?_toArray,List.getElem?_append_right (by simp)]
   simpa using hv
  have Th:pJ w w3:=(pJ.bF mw).trans (pJ.pW BG Fw)
  have VM:Below B w w3:=BG.aJ (mw.mono (by omega)) (by have:=mw.size;omega) (by simpa using hBe)
  have XM:Hid (w3.ownsRow B 5 1 lv ln lx):=BG.dV (ae Up.out mw) (fun b cur fz hb e=>by
   simp at hb
   subst hb
   rw[Fw]at e
   simp at e)
  have Ij:Hid (∀W,Below w3.heap.size w3 W→Calls Tryz.prog 71 #[lv,.string ct,.agg (Rc.bA qN).toArray] W fun e w4=>∃vd vn vc,e=.returned (.slice vd vn vc)∧w4.cell? ⟨eg,36,none⟩=some lv∧w4.frozen? ⟨eg,36,none⟩=false∧w4.rangeAt x 4 (Rc.bA qN)∧Hid (nP (w4.setCell ⟨eg,36,none⟩ (.slice vd vn vc)) B eg kl Sg (n+1)∧pJ w (w4.setCell ⟨eg,36,none⟩ (.slice vd vn vc))∧Below B w (w4.setCell ⟨eg,36,none⟩ (.slice vd vn vc))∧xC K w (w4.setCell ⟨eg,36,none⟩ (.slice vd vn vc)) eg ct∧lV (w4.setCell ⟨eg,36,none⟩ (.slice vd vn vc)) B eg kl Sg (n+1) w.heap.size)):=by
   intro W hW
   have hBs:B≤W.heap.size:=by have:=hW.size;have:=VM.size;omega
   refine(C4 B W lv ln lx ct qN (ae XM.out hW) hBs (by omega) (by omega) ia).mono ?_
   rintro e w4 ⟨v',n',rfl,l8,hkw,hfw⟩
   obtain⟨vd,vc,rfl⟩:=ah l8.own
   have h34:pJ w3 w4:=(pJ.bF hW).trans (pJ.Jw l8.D5 l8.aZ)
   have Ka:w4.heap[eg]?=some (.cells (bE pl (.slice rd l.length rc) gm' hm' qN lv) 109 (0,0)):=l8.D5 eg _ (by rw[hW.block _ (lt_of_heap eu)];exact eu) (by simp) (fun c fz e=>by simp at e)
   have hx4:w4.heap[x]?=some (.cells (aO pl (.slice rd l.length rc) gm' hm' qN) 107 (0,0)):=h34.heap Sr (iF (by decide) (by decide))
   have SJ:=Uc Ka ia (.slice vd n' vc)
   have MY:Kb [eg] w4 (w4.setCell ⟨eg,36,none⟩ (.slice vd n' vc)):=Kb.setCell w4 ⟨eg,36,none⟩ _
   have h35:pJ w3 (w4.setCell ⟨eg,36,none⟩ (.slice vd n' vc)):=h34.trans (pJ.pW MY Ka)
   have hc5:pJ wc (w4.setCell ⟨eg,36,none⟩ (.slice vd n' vc)):=(pJ.pW BG Fw).trans h35
   have Wc:Below B w w4:=(VM.trans (hW.mono (by have:=VM.size;omega))).trans l8.aZ
   obtain⟨N,g1,g2,g3⟩:=HC1.out.at_
   have Vo:xC K w (w4.setCell ⟨eg,36,none⟩ (.slice vd n' vc)) eg ct:=by
    intro hd0 lg lv0 hH
    obtain⟨pl0,rv0,gm0,hm0,e0⟩:=hH.at_
    rw[UP.out.1]at e0
    simp only[Option.some.injEq,Obj.cells.injEq,and_true]at e0
    obtain⟨rfl,rfl⟩:=oS UP.out.2.2 hH.K8 e0
    obtain⟨hnn,hxx⟩:=qY UP.out.2.1 hH.log
    have hWw:w.heap.size≤W.heap.size:=by have:=hW.size;have:=BG.size;have:=mw.size;omega
    refine⟨.slice vd n' vc,⟨⟨_,_,_,_,by rw[←WI.out];exact SJ⟩,by rw[←WI.out];exact ia, ?_⟩, ?_,hfw.mono hWw⟩
    · have h7:=MY.dV l8.own (fun b cur fz hb e=>by
       simp at hb
       subst hb
       rw[Ka]at e
       simp at e)
      have h8:=l8.len
      rw[hxx,WI.out]at h7 h8
      rw[h8]
      exact aG h7 (Nat.zero_le _)
    · have m1:Kb (eg::lv.ownBlock.toList) w wc:=Kb.bF mw _
      have m2:Kb (eg::lv.ownBlock.toList) wc w3:=BG.mono (fun i hi _=>by simp at hi;simp[hi])
      have m3:Kb (eg::lv.ownBlock.toList) w3 W:=Kb.bF hW _
      have m4:Kb (eg::lv.ownBlock.toList) W w4:=hkw.mono (fun i hi _=>by simp at hi;simp[hi])
      have m5:Kb (eg::lv.ownBlock.toList) w4 (w4.setCell ⟨eg,36,none⟩ (.slice vd n' vc)):=MY.mono (fun i hi _=>by simp at hi;simp[hi])
      exact(((m1.trans m2).trans m3).trans m4).trans m5
   have Zi:=MY.dV l8.own (fun b cur fz hb e=>by
    simp at hb
    subst hb
    rw[Ka]at e
    simp at e)
   have adX:n'≤1000*(n+1):=by
    have h7:=l8.len
    have h8:=XM.out.1
    have h9:=KG ad9 ia
    rw[List.length_append,Rc.bB]at h7
    omega
   have hEP:=Q6 SJ ((Zj.out.below mw).TR hc5) HE.out ((g1.below mZ).TR hc5) g2 (hH'.TR hc5) hI' hT' ia Zi adX HPN.out hBe (f:=w.heap.size) (fun y hy=>Nat.le_trans mM.out.size (zq y hy))
   refine⟨vd,n',vc,rfl,(kt Ka ia).2.2.2.2.2,by simp[World.frozen?,Ka], ?_,hEP.KW,Th.trans h35,MY.aJ Wc (by have:=Wc.size;omega) (by simpa using hBe),Vo,hEP⟩
   · intro j v hv
     have hu:(Rc.bA qN).length=32:=by rw[Rc.bB,ia]
     rw[cell_of_row _ _ _ _ _ _ hx4]
     unfold aO
     rw[List.getElem?_toArray,List.getElem?_append_right (by simp)]
     simpa using hv
  have WU:Hid (w1.heap.size≤x):=pQ
  have XW:(Tryz.prog.info? 105).map (·.size)=some (Rc.bA qN).length:=by
   rw[Rc.bB,ia]
   kernel_rfl
  have aiP:=lt_of_heap Sr
  have aik:eg<w3.heap.size:=lt_of_heap eu
  clear ko hH' hI' hT' zq mZ mw eu BG Fw Th VM Sr HHE Kf yL pQ
  go_wp2_with (first | (refine wpList_load_row rfl _ _ rfl x rfl _ _ _ _ hx Tryz.underlying107 rfl (by rw[cE];kernel_rfl) ?_) | (refine wpList_store_mid rfl 107 (.tmp 51) (.tmp 49) rfl eg 0 (aO pl (.slice rd l.length rc) gm' hm' qN) rfl rfl HTH.out Jr.out o8.out ?_))
  rw[←SZ]
  clear SZ hx
  refine wp_region_noPanic ?_
  refine wp_region_held_drew (S:=fun W=>W.rangeAt x 4 (Rc.bA qN)) (by kernel_rfl) Wn (fun cS=> ?_)
  refine wpAnyH_take (i:=0) (v:= ?_) rfl (by kernel_rfl) (by kernel_rfl) (by kernel_rfl) (fun _ _ _ h=>h) (Or.inl ⟨by rfl, ?_⟩) (by assumption) ?_
  rotate_left
  · intro wS jl
    go_simp
    with_reducible rfl
  simp only[Act.put,List.setIfInBounds_toArray,List.set_cons_zero,List.set_cons_succ]
  refine wpAnyH_take (i:=1) (v:= ?_) rfl (by kernel_rfl) (by kernel_rfl) (by kernel_rfl) (fun _ _ _ h=>h) (Or.inl ⟨by rfl, ?_⟩) (by assumption) ?_
  rotate_left
  · intro wS jl
    go_simp
    with_reducible rfl
  simp only[Act.put,List.setIfInBounds_toArray,List.set_cons_zero,List.set_cons_succ]
  refine wpAnyH_take (i:=2) (v:= ?_) rfl (by kernel_rfl) (by kernel_rfl) (by kernel_rfl) (fun _ _ _ h=>h) (Or.inl ⟨by rfl, ?_⟩) (by assumption) ?_
  rotate_left
  · intro wS jl
    go_simp
    with_reducible rfl
  simp only[Act.put,List.setIfInBounds_toArray,List.set_cons_zero,List.set_cons_succ]
  refine wpAnyH_take (i:=3) (v:= ?_) rfl (by kernel_rfl) (by kernel_rfl) (by kernel_rfl) (fun _ _ _ h=>h) (Or.inl ⟨by rfl, ?_⟩) (by assumption) ?_
  rotate_left
  · intro wS jl
    go_simp
    with_reducible rfl
  simp only[Act.put,List.setIfInBounds_toArray,List.set_cons_zero,List.set_cons_succ]
  refine wpAnyH_take (i:=5) (v:= ?_) rfl (by kernel_rfl) (by kernel_rfl) (by kernel_rfl) (fun _ _ _ h=>h) (Or.inl ⟨by rfl, ?_⟩) (by assumption) ?_
  rotate_left
  · intro wS jl
    go_simp
    with_reducible rfl
  simp only[Act.put,List.setIfInBounds_toArray,List.set_cons_zero,List.set_cons_succ]
  refine wpAnyH_take (i:=6) (v:= ?_) rfl (by kernel_rfl) (by kernel_rfl) (by kernel_rfl) (fun _ _ _ h=>h) (Or.inl ⟨by rfl, ?_⟩) (by assumption) ?_
  rotate_left
  · intro wS jl
    go_simp
    with_reducible rfl
  simp only[Act.put,List.setIfInBounds_toArray,List.set_cons_zero,List.set_cons_succ]
  refine wpAnyH_take (i:=7) rfl (by kernel_rfl) (by kernel_rfl) (by kernel_rfl) (fun _ _ _ h=>h) (yieldsIf_load_mid (by rfl) _ _ rfl x 4 rfl (Rc.bA qN) _ (fun _ h=>h) hu5 rfl XW) (by assumption) ?_
  simp only[Act.put,List.setIfInBounds_toArray,List.set_cons_zero,List.set_cons_succ]
  refine wpAnyH_ready (rs:=[4]) (by kernel_rfl) (by simp) ?_
  refine AllReadyH.cons rfl (fun Kq ix=> ?_) AllReadyH.nil
  go_simp
  refine ix.out _ _ Wn (fun UM=> ?_)
  clear ix Kq
  refine wpAnyH_ready (rs:=[8]) (by kernel_rfl) (by simp) ?_
  refine AllReadyH.cons rfl (fun Kq ix=> ?_) AllReadyH.nil
  go_simp
  refine(Ij.out _ (by exact(Below.refl _ _).drew)).mono ?_
  rintro e w4 ⟨vd,vn,vc,rfl,c36,f36,hr4,HF⟩
  refine ix.out _ _ hr4 (fun adT=> ?_)
  clear ix Kq cS UM
  refine wpAnyH_take (i:=9) (v:= ?_) rfl (by kernel_rfl) (by kernel_rfl) (by kernel_rfl) (fun _ _ _ h=>h) (Or.inl ⟨by rfl, ?_⟩) (by assumption) ?_
  rotate_left
  · intro wS jl
    go_simp
    with_reducible rfl
  simp only[Act.put,List.setIfInBounds_toArray,List.set_cons_zero,List.set_cons_succ]
  refine wpAnyH_take (i:=10) (v:= ?_) rfl (by kernel_rfl) (by kernel_rfl) (by kernel_rfl) (fun _ _ _ h=>h) (Or.inl ⟨by rfl, ?_⟩) (by assumption) ?_
  rotate_left
  · intro wS jl
    go_simp
    with_reducible rfl
  simp only[Act.put,List.setIfInBounds_toArray,List.set_cons_zero,List.set_cons_succ]
  refine wpAnyH_ready (rs:=[11]) (by kernel_rfl) (by simp) ?_
  refine AllReadyH.cons rfl (fun Kq ix=> ?_) AllReadyH.nil
  go_simp
  refine ix.out _ _ (Dq hr4 Vp _ _) (fun aaZ=> ?_)
  clear ix Kq
  refine wpAnyH_done (by kernel_rfl) ?_ _
  refine NoPanic.normal ?_
  go_wp2_with fail
  go_ret
  rw[←acR.out]
  exact⟨rfl,HF.out⟩
theorem Ny(K:Nat→Int)(w:World)(B eg:Nat)(kl:List Ax.ay)(gv:Nat→Bool)(n:Nat)(hE:nP w B eg kl gv n)(hn:n≤2000000)(hK:Dg.ui w K)(hU:eY w)
 (cd:Option Addr)(cc:Nat)(cm:List FI)(gd:Option Addr)(gc:Nat)(gone:List FI)(LJ:bM w cd cc cm)(Hi:bM w gd gc gone)(ci gi:List Nat)(Qp:fI cm ci)(QW:fI gone gi)(vl:cm.length≤30)(mO:gone.length≤30):
 Calls Tryz.prog 38 #[.pointer (some ⟨eg,0,none⟩),.slice cd cm.length cc,.slice gd gone.length gc] w fun e w'=>e=.returned (.int .i64 0)∧nP w' B eg kl (ax (ax gv ci true) gi false) (n+1)∧pJ w w'∧Below B w w'∧xC K w w' eg ⟨(Rc.eX cm gone).toArray⟩:=
 (Dd K w B eg kl gv n hE hn hK hU cd cc cm gd gc gone LJ Hi ci gi Qp QW vl mO).mono (fun _ _ ⟨h1,h2,h3,h4,h5,_⟩=>⟨h1,h2,h3,h4,h5⟩)
end
/- What an engine answers of the 36 facts. -/
section
open Go.RowKit Go.Maps
def Gc(kl:List Ax.ay)(gv:Nat→Bool)(i:Nat):Nat:=(if i<4∧(En.ak (En.aj kl) gv i&&En.ak (En.aj kl) gv (4+5*i))=true then 1 else 0)+((if i<4∧(En.ak (En.aj kl) gv i&&En.ak (En.aj kl) gv (20+5*i))=true then 1 else 0)+((En.aj kl).map fun r=>En.jG (En.fF r (En.ak (En.aj kl) gv)) i).sum)
def jk(gv:Nat→Bool):Prop:=∀i,36≤i→gv i=false
theorem jk.set{gv:Nat→Bool}(h:jk gv){i:Nat}(hi:i<36)(b:Bool):jk (gp gv i b):=fun j hj=>by
 unfold gp
 rw[if_neg (by omega)]
 exact h j hj
theorem jk.iw{b:Bool}:∀(is:List Nat) {gv:Nat→Bool},jk gv→(∀i,i∈is→i<36)→jk (ax gv is b)
 | [],_,h,_=>h
 | i::is,_,h,hi=>jk.iw is (h.set (hi i (by simp)) b) (fun j hj=>hi j (by simp[hj]))
theorem Ee{kl:List Ax.ay}{gv:Nat→Bool}{s:En.dB En.cg}(hI:En.Inv (En.sR (En.aj kl)) (En.gF gv) s s.found.length):s.found.length≤36:=by
 have h1:=En.sV (En.ub kl) hI
 have h2:s.found ⊆ (List.range 36).map En.uF:=by
  intro f hf
  obtain⟨i,hi,e⟩:=En.Mf (h1 f hf)
  exact List.mem_map.2 ⟨i,by simpa using hi,e.symm⟩
 have:=List.Nodup.length_le_of_subset hI.nodup h2
 simpa using this
theorem Ly{L:List (List ByteArray)}(ho:Tb.Ord L)(f:List ByteArray→Nat)(r:List ByteArray):Tb.Aa L (L.map f) r=if Tb.mD L r=true then f r else 0:=by
 unfold Tb.Aa
 by_cases h:Tb.mD L r=true
 · rw[if_pos h,if_pos h]
   have:=(Tb.fM ho r).2 (Tb.dW.1 h)
   simp[List.getD,this]
 · rw[if_neg h,if_neg h]
def o6(eg:Nat)(rv:Value)(gv:Nat→Bool):Array Value:=([Value.pointer (some ⟨eg,0,none⟩),rv]++kh gv).toArray
def fo(w:World)(sb eg:Nat)(rv:Value)(gv:Nat→Bool):Prop:=w.heap[sb]?=some (.cells (o6 eg rv gv) 43 (0,0))
theorem fo.below{w w':World}{sb eg:Nat}{rv:Value}{gv:Nat→Bool}(h:fo w sb eg rv gv)(hb:Below w.heap.size w w'):fo w' sb eg rv gv:=by
 unfold fo
 rw[hb.block _ (lt_of_heap h)]
 exact h
theorem fo.TR{w w':World}{sb eg:Nat}{rv:Value}{gv:Nat→Bool}(h:fo w sb eg rv gv)(hb:pJ w w'):fo w' sb eg rv gv:=hb.heap h (iF (by decide) (by decide))
theorem fo.cells{w:World}{sb eg:Nat}{rv:Value}{gv:Nat→Bool}(h:fo w sb eg rv gv):w.cell? ⟨sb,0,none⟩=some (.pointer (some ⟨eg,0,none⟩))∧w.cell? ⟨sb,1,none⟩=some rv∧∀i,i<36→w.cell? ⟨sb,2+i,none⟩=some (.bool (gv i)):=by
 refine⟨by rw[cell_of_row _ _ _ _ _ _ h];rfl,by rw[cell_of_row _ _ _ _ _ _ h];rfl, ?_⟩
 intro i hi
 rw[cell_of_row _ _ _ _ _ _ h]
 unfold o6
 rw[List.getElem?_toArray,List.getElem?_append_right (by simp)]
 simpa using o7 gv hi
theorem nP.below{w w':World}{B eg:Nat}{kl:List Ax.ay}{gv:Nat→Bool}{n:Nat}(h:nP w B eg kl gv n)(hb:Below w.heap.size w w'):nP w' B eg kl gv n:=by
 obtain⟨pl,rd,rc,l,gm,G,hm,T,s,hd,lv,ln,lx,eb,dN,he,hG,hR,hH,hI,hT,bT,nU,zn,DL⟩:=h.at_
 exact⟨⟨pl,rd,rc,l,gm,G,hm,T,s,hd,lv,ln,lx,by rw[hb.block _ (lt_of_heap eb)];exact eb,dN.below hb,he,hG.below hb,hR,hH.below hb,hI,hT,bT,ae nU hb,zn,DL⟩,h.ge⟩
end
/- axiomkeep: what text calls, as it calls it. -/
section
open Go.RowKit
structure TW(w:World)(g o:Nat)(r:Ax.ay):Prop where
 head:uc w g o r.head
 body:∃bd bn bc,w.cell? ⟨g,o+3,none⟩=some (.slice bd bn bc)∧ib w bd bn bc r.body
structure rR(w:World)(ad:Option Addr)(n c:Nat)(l:List Ax.ay):Prop where
 len:l.length=n
 cap:n≤c
 max:c≤maxLen
 at_:∀k (h:k<l.length),∃g o,ad=some ⟨g,o,none⟩∧TW w g (o+k*4) l[k]
theorem xX:∀(ts:List Nat) (i:Nat) (p:ByteArray),(lz ts i p).size≤p.size+3*ts.length
 | [],_,p=>by simp[lz]
 | x::l,i,p=>by
  rw[lz]
  have h:=xX l (i+1) (fO i p x)
  have hx:=CH x
  have hc:(⟨#[44]⟩:ByteArray).size=1:=rfl
  have hs:(fO i p x).size≤p.size+3:=by
   unfold fO
   split
   · rw[ByteArray.size_append,ByteArray.size_append];omega
   · rw[ByteArray.size_append];omega
  rw[List.length_cons]
  omega
theorem xv(p:Nat)(ts:List Nat)(h:ts.length≤2):(ux p ts).size≤12:=by
 unfold ux
 have h1:=xX ts 0 (Ax.cr p++⟨#[40]⟩)
 have h2:=yl p
 have h3:(⟨#[40]⟩:ByteArray).size=1:=rfl
 have h4:(⟨#[41]⟩:ByteArray).size=1:=rfl
 rw[ByteArray.size_append]at h1 ⊢
 omega
theorem qT(a:Ax.dR):∀x,x∈Ax.bU a→x<7:=by
 intro x hx
 have h1:=Ax.eE a.a 7 (by decide)
 have h2:=Ax.eE a.b 7 (by decide)
 unfold Ax.bU at hx
 split at hx
 · simp at hx;omega
 · simp at hx;omega
theorem Ab(r:Ax.ay):0<(Ax.eH r).length∧(Ax.eH r).length≤2:=by
 unfold Ax.eH
 rw[List.length_map]
 exact kN r.head
theorem Dv(r:Ax.ay):∀x,x∈Ax.eH r→x<7:=by
 intro x hx
 unfold Ax.eH at hx
 obtain⟨y,hy,rfl⟩:=List.mem_map.1 hx
 have:=qT r.head y hy
 split<;>omega
def U1(B:Nat)(w:World)(d:Option Addr)(c:Nat)(ts:List Nat):Prop:=w.ownsRow B 3 1 (.slice d ts.length c) ts.length (aA ts)
theorem P5{w:World}{ad:Option Addr}{n c:Nat}{r:Ax.ay}(hB:ib w ad n c r.body)(h0:cw r.head.pred)(h1:cw r.head.a)(h2:cw r.head.b)(T:List Nat)(hT:Ax.eH r=T):∀W,Below w.heap.size w W→
 Calls Tryz.prog 62 #[.agg #[.int .i64 r.head.pred,.int .i64 r.head.a,.int .i64 r.head.b,.slice ad n c]] W fun e w'=>∃d c',e=.returned (.slice d T.length c')∧U1 w.heap.size w' d c' T∧Below w.heap.size w w':=by
 intro W hb
 subst hT
 refine(MK W r ad n c (hB.below hb) h0 h1 h2).mono ?_
 rintro e w' ⟨d,c',rfl,ho,xg⟩
 exact⟨d,c',rfl,aG ho hb.size,hb.trans (xg.mono hb.size)⟩
theorem L9{w:World}{a:Ax.dR}(h0:cw a.pred)(h1:cw a.a)(h2:cw a.b)(T:List Nat)(hT:Ax.bU a=T):∀W,Below w.heap.size w W→
 Calls Tryz.prog 64 #[.agg #[.int .i64 a.pred,.int .i64 a.a,.int .i64 a.b]] W fun e w'=>∃d c',e=.returned (.slice d T.length c')∧U1 w.heap.size w' d c' T∧Below w.heap.size w w':=by
 intro W hb
 subst hT
 refine(qp W a h0 h1 h2).mono ?_
 rintro e w' ⟨d,c',rfl,ho,xg⟩
 exact⟨d,c',rfl,aG ho hb.size,hb.trans (xg.mono hb.size)⟩
theorem xl{w:World}{p:Int}(hp:cw p)(T:List Nat)(h2:T.length≤2)(h7:∀x,x∈T→x<7)(A:ByteArray)(hA:ux (Ax.bk p 3) T=A):∀W d c,Below w.heap.size w W→U1 w.heap.size W d c T→
 Calls Tryz.prog 61 #[.int .i64 p,.slice d T.length c] W fun e w'=>e=.returned (.string A)∧Below w.heap.size w w':=by
 intro W d c hb ho
 subst hA
 refine(CF W p hp _ d c T ho (by omega) h7 _ rfl).mono ?_
 rintro e w' ⟨rfl,xg⟩
 exact⟨rfl,hb.trans (xg.mono hb.size)⟩
theorem Q0{w:World}{ad:Option Addr}{n c:Nat}{l:List Ax.dR}(h:ib w ad n c l)(p a b:Int)(m:Nat)(hm:min n 2=m):∀W,Below w.heap.size w W→Calls Tryz.prog 63 #[.agg #[.int .i64 p,.int .i64 a,.int .i64 b,.slice ad n c]] W fun e w'=>e=.returned (.slice ad m c)∧Below w.heap.size w w':=by
 intro W hb
 subst hm
 refine(CO h p a b W).mono ?_
 rintro e w' ⟨rfl,xg⟩
 exact⟨rfl,hb.trans (xg.mono hb.size)⟩
end
end Go.Proofs.YtdmicblafmhflaaGreatDoor
