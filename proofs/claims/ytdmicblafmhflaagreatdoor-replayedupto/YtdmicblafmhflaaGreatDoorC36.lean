/- Engine.Apply, walked. -/
import Derived.Test.YtdmicblafmhflaaGreatDoorC35
import Derived.Test.YtdmicblafmhflaaGreatDoorC11
import Derived.Test.YtdmicblafmhflaaGreatDoorC10
set_option linter.unusedSimpArgs false
set_option linter.unusedVariables false
set_option maxHeartbeats 4000000
set_option maxRecDepth 100000
namespace Go.Proofs.YtdmicblafmhflaaGreatDoor
section
open Go.RowKit Go.Maps
structure eG(w:World)(eg:Nat)(hd:List UInt8)(lg:List Value)(lv:Value):Prop where
 at_:∃pl rv gm hm,w.heap[eg]?=some (.cells (bE pl rv gm hm hd lv) 109 (0,0))
 Jw:hd.length=32
 log:w.ownsRow 0 5 1 lv lg.length lg
theorem eG.below{w w':World}{eg:Nat}{hd:List UInt8}{lg:List Value}{lv:Value}(h:eG w eg hd lg lv)(hb:Below w.heap.size w w'):eG w' eg hd lg lv:=by
 obtain⟨pl,rv,gm,hm,e⟩:=h.at_
 exact⟨⟨pl,rv,gm,hm,by rw[hb.block _ (lt_of_heap e)];exact e⟩,h.Jw,ae h.log hb⟩
theorem IZ:∀{a b:List UInt8},Rc.bA a=Rc.bA b→a=b
 | [],[],_=>rfl
 | [],_::_,h=>by simp[Rc.bA]at h
 | _::_,[],h=>by simp[Rc.bA]at h
 | x::a,y::b,h=>by
  simp only[Rc.bA,List.map_cons,List.cons.injEq,Value.int.injEq,true_and]at h
  have h1:x=y:=by
   apply UInt8.toNat_inj.1
   have:=h.1
   omega
  rw[h1,IZ (a:=a) (b:=b) h.2]
theorem oQ{pl pl':ByteArray}{rv rv':Value}{gm gm' hm hm':Nat}{hd DK:List UInt8}{lv qk:Value}(h:hd.length=32)(h':DK.length=32)(e:bE pl rv gm hm hd lv=bE pl' rv' gm' hm' DK qk):hd=DK∧lv=qk:=by
 unfold bE at e
 have e1:=congrArg Array.toList e
 simp only[List.cons_append,List.nil_append,List.cons.injEq]at e1
 obtain⟨_,_,_,_,e2⟩:=e1
 have e3:=List.append_inj e2 (by rw[Rc.bB,Rc.bB,h,h'])
 exact⟨IZ e3.1,by simpa using e3.2⟩
theorem rV{w:World}{B C:Nat}{e:TypeId}{v:Value}{n m:Nat}{xs ys:List Value}(h:w.ownsRow B e 1 v n xs)(k:w.ownsRow C e 1 v m ys):n=m∧xs=ys:=by
 rcases h.2 with⟨e1,e2⟩ | ⟨g,cap,cur,e1,_,hg,_,_,_,ht⟩
 · rcases k.2 with⟨f1,f2⟩ | ⟨g',FN,jX,f1,_⟩
   · have h1:=h.1
     have k1:=k.1
     have hx:xs=[]:=List.eq_nil_of_length_eq_zero (by omega)
     have hy:ys=[]:=List.eq_nil_of_length_eq_zero (by omega)
     exact⟨by omega,by rw[hx,hy]⟩
   · rw[e1]at f1
     cases f1
 · rcases k.2 with⟨f1,f2⟩ | ⟨g',FN,jX,f1,_,WD,_,_,_,nV⟩
   · rw[e1]at f1
     cases f1
   · rw[e1]at f1
     simp only[Value.slice.injEq,Option.some.injEq,Addr.mk.injEq,and_true]at f1
     obtain⟨rfl,rfl,_⟩:=f1
     rw[hg]at WD
     simp only[Option.some.injEq,Obj.cells.injEq,and_true]at WD
     subst WD
     exact⟨rfl,ht.symm.trans nV⟩
def wD(K:Nat→Int)(w w':World)(eg:Nat)(ct:ByteArray):Prop:=∀hd lg lv,eG w eg hd lg lv→∃qk,eG w' eg (dO K hd ct) (lg++Rc.bA (Rc.aC ct++dO K hd ct)) qk∧Kb (eg::lv.ownBlock.toList) w w'∧cw w lv qk
def lM(w:World)(B eg:Nat)(kl:List Ax.ay)(gv:Nat→Bool)(n f:Nat):Prop:=∀(S:List Nat) (W:World),Kb S w W→(∀b,b∈S→∃(cur:Array Value) (t:TypeId) (fz:Nat×Nat),w.heap[b]?=some (.cells cur t fz)∧(t=43∨(t=3∨t=9)∧b<f))→nQ W B eg kl gv n
theorem lM.Kr{w:World}{B eg:Nat}{kl:List Ax.ay}{gv:Nat→Bool}{n f:Nat}(h:lM w B eg kl gv n f):nQ w B eg kl gv n:=h [] w (Kb.refl _ _) (fun b hb=>by cases hb)
theorem Ra{w:World}{B eg:Nat}{kl:List Ax.ay}{gv:Nat→Bool}{n f:Nat}{pl:ByteArray}{rd:Option Addr}{rc:Nat}{l:List MR}{gm:Nat}{G:List GT}{hm:Nat}{T:List HT}{s:En.dB En.cl}{hd:List UInt8}{lv:Value}{ln:Nat}{lx:List Value}
 (eb:w.heap[eg]?=some (.cells (bE pl (.slice rd l.length rc) gm hm hd lv) 109 (0,0)))(dN:aI w rd rc l)(he:(l.map MR.aw).map Ax.kX=Ax.gR kl)(hG:lB w gm G)(hR:fV G gv)(hH:pG w hm T s)(hI:En.Inv (En.sR (En.aj kl)) (En.gF gv) s s.found.length)(hT:∀p,p∈T.map ig↔p∈jL)(bS:hd.length=32)(nT:w.ownsRow B 5 1 lv ln lx)(yS:ln≤1000*n)(kY:pl=Ax.au kl)(ge:B≤eg)(hf:∀y,y∈cK hm T→f≤y):lM w B eg kl gv n f:=by
 intro S W hk hS
 have iM:∀(b:Nat) (cur:Array Value) (t:TypeId) (fz:Nat×Nat),w.heap[b]?=some (.cells cur t fz)→t≠43→(t≠3∨f≤b)→t≠9→¬b∈S:=by
  intro b cur t fz e h1 h2 h3 hm
  obtain⟨jX,t',Pn,e2,ht⟩:=hS b hm
  rw[e]at e2
  simp at e2
  obtain⟨_,e3,_⟩:=e2
  subst e3
  rcases ht with ht | ⟨ht | ht,aE⟩
  · exact h1 ht
  · rcases h2 with h2 | h2
    · exact h2 ht
    · omega
  · exact h3 ht
 have Fs:∀(b:Nat) (o:Obj),w.heap[b]?=some o→(∀cur t fz,o≠ .cells cur t fz)→¬b∈S:=by
  intro b o e h1 hm
  obtain⟨jX,t',Pn,e2,_⟩:=hS b hm
  rw[e]at e2
  exact h1 _ _ _ (Option.some.inj e2)
 refine⟨⟨pl,rd,rc,l,gm,G,hm,T,s,hd,lv,ln,lx,hk.heap eb (iM _ _ _ _ eb (by decide) (.inl (by decide)) (by decide)),dN.kept hk ?_,he,hG.kept hk ?_,hR,hH.kept hk ?_,hI,hT,bS,hk.dQ nT ?_,yS,kY⟩,ge⟩
 · intro b cur U hb e
   refine⟨?_, ?_, ?_⟩<;>(rintro rfl;exact iM b _ _ _ e (by decide) (.inl (by decide)) (by decide) hb)
 · intro b hb
   unfold eV at hb
   rcases List.mem_cons.1 hb with rfl | hb
   · obtain⟨es,ck,e⟩:=hG.map.block
     exact Fs _ _ e (fun _ _ _ h=>by cases h)
   · obtain⟨u,hu,hb⟩:=List.mem_flatMap.1 hb
     obtain⟨cur,U,e,hU⟩:=(hG.b7 u hu).types hb
     refine iM _ _ _ _ e ?_ (.inl ?_) ?_<;>(rcases hU with rfl | rfl<;>decide)
 · intro b hb
   have VX:=hf b hb
   unfold cK at hb
   rcases List.mem_cons.1 hb with rfl | hb
   · obtain⟨es,ck,e⟩:=hH.map.block
     exact Fs _ _ e (fun _ _ _ h=>by cases h)
   · obtain⟨u,hu,hb⟩:=List.mem_flatMap.1 hb
     obtain⟨cur,U,e,hU⟩:=(hH.b7 u hu).types hb
     refine iM _ _ _ _ e ?_ (.inr VX) ?_<;>(rcases hU with rfl | rfl | rfl<;>decide)
 · intro b cur fz hb e
   exact iM b _ _ _ e (by decide) (.inl (by decide)) (by decide) hb
theorem D9(K:Nat→Int)(w:World)(B eg:Nat)(kl:List Ax.ay)(gv:Nat→Bool)(n:Nat)(hE:nQ w B eg kl gv n)(hn:n≤2000000)(hK:Dg.uw w K)(hU:eW w)
 (cd:Option Addr)(cc:Nat)(cm:List FI)(gd:Option Addr)(gc:Nat)(gone:List FI)(LQ:bM w cd cc cm)(Ia:bM w gd gc gone)(ci gi:List Nat)(QM:fM cm ci)(P4:fM gone gi)(vD:cm.length≤30)(mO:gone.length≤30):
 Calls Tryz.prog 38 #[.pointer (some ⟨eg,0,none⟩),.slice cd cm.length cc,.slice gd gone.length gc] w fun e w'=>e=.returned (.int .i64 0)∧nQ w' B eg kl (ax (ax gv ci true) gi false) (n+1)∧p5 w w'∧Below B w w'∧wD K w w' eg ⟨(Rc.eY cm gone).toArray⟩∧lM w' B eg kl (ax (ax gv ci true) gi false) (n+1) w.heap.size:=by
 obtain⟨pl,rd,rc,l,gm,G,hm,T,s,hd,lv,ln,lx,eb,dN,he,hG,hR,hH,hI,hT,bS,nT,yS,EF⟩:=hE.at_
 have HPN:Hid (pl=Ax.au kl):=EF
 have TI:Hid (w.heap[eg]?=some (.cells (bE pl (.slice rd l.length rc) gm hm hd lv) 109 (0,0))∧w.ownsRow B 5 1 lv ln lx∧hd.length=32):=⟨eb,nT,bS⟩
 clear EF
 have hBe:=hE.ge
 obtain⟨k0,k1,k2,k3,k4,k5⟩:=kI eb bS
 have Pc:=lt_of_heap eb
 generalize hgv:ax (ax gv ci true) gi false=SX
 have VP:Hid (Calls Tryz.prog 68 #[.pointer (some ⟨eg,0,none⟩),.slice cd cm.length cc,.slice gd gone.length gc] w fun e w'=>∃gm',e=.returned (.tuple #[.map (some gm'),.bool true])∧Hid (uA w w' gm' SX)):=by
  refine(Dp w eg gm hm G gv T s k2 k3 hG hR hH hT hU cd cc cm gd gc gone LQ Ia ci gi QM P4 (by omega) (by omega)).mono ?_
  rintro e w' ⟨gm',rfl,h⟩
  rw[hgv]at h
  exact⟨gm',rfl,h⟩
 obtain⟨ct,LJ⟩:∃ct:ByteArray,ct=⟨(Rc.eY cm gone).toArray⟩:=⟨_,rfl⟩
 have acN:ct.size≤602:=by
  have:=CE QM P4 vD mO
  rw[LJ]
  exact this
 have R8:Hid (∀W,Below w.heap.size w W→Calls Tryz.prog 69 #[.slice cd cm.length cc,.slice gd gone.length gc] W fun e w'=>e=.returned (.string ct)∧Below W.heap.size W w'):=by
  intro W hW
  rw[LJ]
  exact D8 W cd cc cm gd gc gone (LQ.below hW) (Ia.below hW) (QM.small vD) (P4.small mO)
 obtain⟨qM,Qq⟩:∃qM,qM=dO K hd ct:=⟨_,rfl⟩
 have iu:qM.length=32:=by rw[Qq];exact Lw _ _ _
 have VW:Hid (qM=dO K hd ct):=Qq
 have abW:Hid (ct=⟨(Rc.eY cm gone).toArray⟩):=LJ
 have HHE:Hid (∀w1 b W,Below w.heap.size w w1→AI w1 b W→Calls Tryz.prog 70 #[.agg (Rc.bA hd).toArray,.string ct] W fun e w'=>e=.returned (.agg (Rc.bA qM).toArray)∧AI w1 b w'):=by
  intro w1 b W sL hW
  rw[Qq]
  refine(wF K W hd ct (hK.below (sL.trans (hW.aZ.mono sL.size))) bS (by omega)).mono ?_
  rintro e w' ⟨rfl,hb⟩
  exact⟨rfl,hW.below hb⟩
 have Ln:Hid (∀w1 gm' b W,uA w w1 gm' SX→AI w1 b W→Calls Tryz.prog 57 #[.agg #[.string pl,.slice rd l.length rc],.map (some gm'),.agg (Rc.bA qM).toArray] W fun e w'=>∃hm',e=.returned (.tuple #[.agg (aO pl (.slice rd l.length rc) gm' hm' qM),.bool true])∧u6 (aO pl (.slice rd l.length rc) gm' hm' qM) b w'∧AE w1 kl SX hm' b w'):=by
  intro w1 gm' b W hC hW
  obtain⟨N,g1,g2,g3⟩:=hC.at_
  have qL:Below w.heap.size w W:=hC.aZ.trans (hW.aZ.mono hC.aZ.size)
  have VZ:=g1.below hW.aZ
  obtain⟨Cz,_,Aa⟩:=iP (dN.below qL) he
  have cA:l≠[]:=by
   rintro rfl
   simp[Ax.gR,Ax.ls]at he
  have dD:∀Q,Pd.vF Q→(∀p,p∈Q↔p∈bP (l.map MR.aw))→∃s,fi (l.map MR.aw) (dm Q N)=some s∧En.Inv (En.sR (En.aj kl)) (En.gF SX) s s.found.length:=fun Q _ hQ=>oM he g2 g1.names hQ
  refine(yn W _ rd rc l Cz Aa (nE he) cA (fun p hp=>Nat.le_trans (dP p ((dW he p).1 hp)) (by decide)) gm' N VZ ?_ (Nat.le_trans (g2.sum g1.names (fun t ht=>cp.ord (g1.b7 t ht))) (by decide)) qM iu ?_).mono ?_
  · intro p hp
    obtain⟨t,ht,e,_⟩:=g2.has (p:=p.1) (n:=p.2) ((dW he p).1 hp)
    rw[←e]
    exact List.mem_map_of_mem ht
  · intro Q h1 h2
    obtain⟨s,e,_⟩:=dD Q h1 h2
    rw[e]
    rfl
  · rintro e w' ⟨hm',T',s',Q,rfl,m1,m2,m3,m4,m5,m6,m7⟩
    have h2:=hW.below m7
    obtain⟨s2,e1,e2⟩:=dD Q m1 m2
    have hs:s2=s':=by
     rw[m3]at e1
     exact(Option.some.inj e1).symm
    subst hs
    refine⟨hm',rfl,MS h2 (aL _ _ _ _ iu) (gJ _ _ _ _ _ _ _),h2,T',s2,m4,e2, ?_, ?_⟩
    · intro p
      rw[m5,List.mem_reverse,m2]
      exact dW he p
    · refine⟨fun x hx y hy=> ?_,fun y hy=>Nat.le_trans hW.aZ.size (m6 y hy)⟩
      obtain⟨_,Z,k2,_⟩:=hW.cU x hx
      have k3:=lt_of_heap k2
      have:=m6 y hy
      omega
 have HEB:Hid (w.heap[eg]?=some (.cells (bE pl (.slice rd l.length rc) gm hm hd lv) 109 (0,0))):=eb
 have XU:Hid (aI w rd rc l):=dN
 have HE:Hid ((l.map MR.aw).map Ax.kX=Ax.gR kl):=he
 have Uf:Hid (w.ownsRow B 5 1 lv ln lx):=nT
 have hlen:cm.length+gone.length≤60:=by omega
 have SN:=bh LQ.row
 have Sk:=bh Ia.row
 clear hE eb dN he hG hR hH hI hT nT hK hU LQ Ia QM P4 hgv LJ Qq k4 k5 k2 k3
 go_enter Tryz.func38,Tryz.ntmps38
 go_upto_region 7 with(first | (go_at_call 68;refine VP.out.mono ?_;rintro e w0 ⟨gm',rfl,Sg⟩) | (go_at_call 69;refine(R8.out _ (by exact Sg.out.aZ)).mono ?_;rintro e w1 ⟨rfl,a8⟩))
 have HC1:Hid (uA w w1 gm' SX):=Sg.out.below a8
 have mK:Hid (Below w.heap.size w w1):=HC1.out.aZ
 have hA1:AI w1 none w1:=⟨Below.refl _ _,fun x h=>by cases h⟩
 have yR:Hid (∀W,Below w1.heap.size w1 W→W.cell? ⟨eg,0,none⟩=some (.string pl)∧W.cell? ⟨eg,1,none⟩=some (.slice rd l.length rc)∧W.rangeAt eg 4 (Rc.bA hd)):=by
  intro W hW
  have hb:=mK.out.trans (hW.mono mK.out.size)
  have h9:W.heap[eg]?=some (.cells (bE pl (.slice rd l.length rc) gm hm hd lv) 109 (0,0)):=by rw[hb.block _ Pc];exact HEB.out
  obtain⟨q0,q1,q2,q3,q4,q5⟩:=kI h9 bS
  exact⟨q0,q1,q4⟩
 have hu5:=Tryz.underlying105
 have zh:(Tryz.prog.info? 105).map (·.size)=some (Rc.bA hd).length:=by
  rw[Rc.bB,bS]
  kernel_rfl
 clear VP R8 a8 Sg
 go_cut [8,10]from 29 (fun v8 v10 wx=>Hid (YT w1 kl SX pl (.slice rd l.length rc) gm' qM v8 v10 wx))
 case first=>
  go_region_held3 (fun W=>W.cell? ⟨eg,0,none⟩=some (.string pl)∧W.cell? ⟨eg,1,none⟩=some (.slice rd l.length rc)∧W.rangeAt eg 4 (Rc.bA hd)) (first | (exact yR.out _ (AI.aZ (by assumption))) | (exact yR.out _ (AI.aZ (AI.drew (by assumption)))) | (exact yR.out _ (AI.aZ (AI.alloc (by assumption) rfl))) | (exact yR.out _ (AI.aZ (AI.alloc (AI.drew (by assumption)) rfl))) | (exact yR.out _ (AI.aZ (AE.ai (by assumption)))) | (exact yR.out _ (AI.aZ (AE.ai (AE.alloc (by assumption) rfl)))) | (exact yR.out _ (AI.stored (AE.ai (by assumption)) (aL _ _ _ _ iu))) | (exact yR.out _ (AI.stored (AE.ai (AE.alloc (by assumption) rfl)) (aL _ _ _ _ iu)))) (first | (go_at_call 70;refine(HHE.out _ _ _ mK.out (by first | assumption | exact AI.drew (by assumption) | exact AI.alloc (by assumption) rfl | exact AI.alloc (AI.drew (by assumption)) rfl)).mono ?_;rintro e wn ⟨rfl,hN⟩) | (go_at_call 57;refine(Ln.out _ _ _ _ HC1.out (by first | assumption | exact AI.drew (by assumption) | exact AI.alloc (by assumption) rfl | exact AI.alloc (AI.drew (by assumption)) rfl)).mono ?_;rintro e wn ⟨hm',rfl,ev,hE⟩;unfold u6 at ev;dsimp only at ev;(try simp only[World.size_drew]at ev);have cE:=aL pl (.slice rd l.length rc) gm' hm' iu))
  all_goals
   (go_wp2_with fail
    go_meet
    first
    | exact AE.cut (by assumption) iu
    | exact AE.cut (AE.alloc (by assumption) rfl) iu)
 case rest=>
  obtain⟨hv8,x,hm',T',s',Ue,p8,hx,hH',hI',hT',nA,zD⟩:=hcut.out
  subst hv8
  subst Ue
  have mF:Below w.heap.size w wc:=mK.out.trans (nA.mono mK.out.size)
  have Fl:wc.heap[eg]?=some (.cells (bE pl (.slice rd l.length rc) gm hm hd lv) 109 (0,0)):=by rw[mF.block _ Pc];exact HEB.out
  obtain⟨ev,Cm⟩:=KL (pl':=pl) (rv':=.slice rd l.length rc) (gm':=gm') (hm':=hm') Fl bS iu
  have cE:=aL pl (.slice rd l.length rc) gm' hm' iu
  have HTH:Hid (wc.there eg 0 (aO pl (.slice rd l.length rc) gm' hm' qM).size):=by
   intro j hj
   rw[cell_of_row _ _ _ _ _ _ Fl]
   refine⟨?_,by simp[World.frozen?,Fl]⟩
   rw[Nat.zero_add,Array.getElem?_eq_getElem (by rw[rO _ _ _ _ _ bS];omega)]
   rfl
  have pg:Hid ((aO pl (.slice rd l.length rc) gm' hm' qM).all (·.oneCell')=true):=Array.all_eq_true_iff_forall_mem.2 (fun v hv=>gJ _ _ _ _ _ _ _ v (by simpa using hv))
  have JX:Hid ((Tryz.prog.info? 107).map (·.size)=some (aO pl (.slice rd l.length rc) gm' hm' qM).size):=by
   rw[cE]
   exact(by kernel_rfl:(Tryz.prog.info? 107).map (·.size)=some 36)
  obtain⟨w3,Su⟩:∃w3,w3=wc.setCells eg 0 (aO pl (.slice rd l.length rc) gm' hm' qM).toList:=⟨_,rfl⟩
  rw[←Su]at ev Cm
  have VD:x≠eg:=by have:=mK.out.size;omega
  have Sx:w3.heap[x]?=some (.cells (aO pl (.slice rd l.length rc) gm' hm' qM) 107 (0,0)):=Cm.heap hx (by simpa using VD)
  obtain⟨_,_,_,_,_,q36⟩:=kI ev iu
  have Ws:w3.rangeAt x 4 (Rc.bA qM):=by
   intro j v hv
   have hu:(Rc.bA qM).length=32:=by rw[Rc.bB,iu]
   have hj:j<32:=by rw[←hu];exact(List.getElem?_eq_some_iff.1 hv).1
   rw[cell_of_row _ _ _ _ _ _ Sx]
   unfold aO
   rw[List.getElem?_toArray,List.getElem?_append_right (by simp)]
   simpa using hv
  have SY:p5 w w3:=(p5.bF mF).trans (p5.pU Cm Fl)
  have TH:Below B w w3:=Cm.aK (mF.mono (by omega)) (by have:=mF.size;omega) (by simpa using hBe)
  have YZ:Hid (w3.ownsRow B 5 1 lv ln lx):=Cm.dQ (ae Uf.out mF) (fun b cur fz hb e=>by
   simp at hb
   subst hb
   rw[Fl]at e
   simp at e)
  have IG:Hid (∀W,Below w3.heap.size w3 W→Calls Tryz.prog 71 #[lv,.string ct,.agg (Rc.bA qM).toArray] W fun e w4=>∃vd vn vc,e=.returned (.slice vd vn vc)∧w4.cell? ⟨eg,36,none⟩=some lv∧w4.frozen? ⟨eg,36,none⟩=false∧w4.rangeAt x 4 (Rc.bA qM)∧Hid (nQ (w4.setCell ⟨eg,36,none⟩ (.slice vd vn vc)) B eg kl SX (n+1)∧p5 w (w4.setCell ⟨eg,36,none⟩ (.slice vd vn vc))∧Below B w (w4.setCell ⟨eg,36,none⟩ (.slice vd vn vc))∧wD K w (w4.setCell ⟨eg,36,none⟩ (.slice vd vn vc)) eg ct∧lM (w4.setCell ⟨eg,36,none⟩ (.slice vd vn vc)) B eg kl SX (n+1) w.heap.size)):=by
   intro W hW
   have hBs:B≤W.heap.size:=by have:=hW.size;have:=TH.size;omega
   refine(DW B W lv ln lx ct qM (ae YZ.out hW) hBs (by omega) (by omega) iu).mono ?_
   rintro e w4 ⟨v',n',rfl,mw,hkw,hfw⟩
   obtain⟨vd,vc,rfl⟩:=ah mw.own
   have h34:p5 w3 w4:=(p5.bF hW).trans (p5.JH mw.Eu mw.aZ)
   have KM:w4.heap[eg]?=some (.cells (bE pl (.slice rd l.length rc) gm' hm' qM lv) 109 (0,0)):=mw.Eu eg _ (by rw[hW.block _ (lt_of_heap ev)];exact ev) (by simp) (fun c fz e=>by simp at e)
   have hx4:w4.heap[x]?=some (.cells (aO pl (.slice rd l.length rc) gm' hm' qM) 107 (0,0)):=h34.heap Sx (iE (by decide) (by decide))
   have SE:=UC KM iu (.slice vd n' vc)
   have Ng:Kb [eg] w4 (w4.setCell ⟨eg,36,none⟩ (.slice vd n' vc)):=Kb.setCell w4 ⟨eg,36,none⟩ _
   have h35:p5 w3 (w4.setCell ⟨eg,36,none⟩ (.slice vd n' vc)):=h34.trans (p5.pU Ng KM)
   have hc5:p5 wc (w4.setCell ⟨eg,36,none⟩ (.slice vd n' vc)):=(p5.pU Cm Fl).trans h35
   have Wa:Below B w w4:=(TH.trans (hW.mono (by have:=TH.size;omega))).trans mw.aZ
   obtain⟨N,g1,g2,g3⟩:=HC1.out.at_
   have Vq:wD K w (w4.setCell ⟨eg,36,none⟩ (.slice vd n' vc)) eg ct:=by
    intro hd0 lg lv0 hH
    obtain⟨pl0,rv0,gm0,hm0,e0⟩:=hH.at_
    rw[TI.out.1]at e0
    simp only[Option.some.injEq,Obj.cells.injEq,and_true]at e0
    obtain⟨rfl,rfl⟩:=oQ TI.out.2.2 hH.Jw e0
    obtain⟨ZA,hxx⟩:=rV TI.out.2.1 hH.log
    have hWw:w.heap.size≤W.heap.size:=by have:=hW.size;have:=Cm.size;have:=mF.size;omega
    refine⟨.slice vd n' vc,⟨⟨_,_,_,_,by rw[←VW.out];exact SE⟩,by rw[←VW.out];exact iu, ?_⟩, ?_,hfw.mono hWw⟩
    · have h7:=Ng.dQ mw.own (fun b cur fz hb e=>by
       simp at hb
       subst hb
       rw[KM]at e
       simp at e)
      have h8:=mw.len
      rw[hxx,VW.out]at h7 h8
      rw[h8]
      exact aG h7 (Nat.zero_le _)
    · have m1:Kb (eg::lv.ownBlock.toList) w wc:=Kb.bF mF _
      have m2:Kb (eg::lv.ownBlock.toList) wc w3:=Cm.mono (fun i hi _=>by simp at hi;simp[hi])
      have m3:Kb (eg::lv.ownBlock.toList) w3 W:=Kb.bF hW _
      have m4:Kb (eg::lv.ownBlock.toList) W w4:=hkw.mono (fun i hi _=>by simp at hi;simp[hi])
      have m5:Kb (eg::lv.ownBlock.toList) w4 (w4.setCell ⟨eg,36,none⟩ (.slice vd n' vc)):=Ng.mono (fun i hi _=>by simp at hi;simp[hi])
      exact(((m1.trans m2).trans m3).trans m4).trans m5
   have X4:=Ng.dQ mw.own (fun b cur fz hb e=>by
    simp at hb
    subst hb
    rw[KM]at e
    simp at e)
   have ad0:n'≤1000*(n+1):=by
    have h7:=mw.len
    have h8:=YZ.out.1
    have h9:=KP acN iu
    rw[List.length_append,Rc.bB]at h7
    omega
   have hEP:=Ra SE ((XU.out.below mF).TW hc5) HE.out ((g1.below nA).TW hc5) g2 (hH'.TW hc5) hI' hT' iu X4 ad0 HPN.out hBe (f:=w.heap.size) (fun y hy=>Nat.le_trans mK.out.size (zD y hy))
   refine⟨vd,n',vc,rfl,(kI KM iu).2.2.2.2.2,by simp[World.frozen?,KM], ?_,hEP.Kr,SY.trans h35,Ng.aK Wa (by have:=Wa.size;omega) (by simpa using hBe),Vq,hEP⟩
   · intro j v hv
     have hu:(Rc.bA qM).length=32:=by rw[Rc.bB,iu]
     rw[cell_of_row _ _ _ _ _ _ hx4]
     unfold aO
     rw[List.getElem?_toArray,List.getElem?_append_right (by simp)]
     simpa using hv
  have Yy:Hid (w1.heap.size≤x):=p8
  have Yz:(Tryz.prog.info? 105).map (·.size)=some (Rc.bA qM).length:=by
   rw[Rc.bB,iu]
   kernel_rfl
  have ahZ:=lt_of_heap Sx
  have ajk:eg<w3.heap.size:=lt_of_heap ev
  clear hcut hH' hI' hT' zD nA mF ev Cm Fl SY TH Sx HHE Ln yR p8
  go_wp2_with (first | (refine wpList_load_row rfl _ _ rfl x rfl _ _ _ _ hx Tryz.underlying107 rfl (by rw[cE];kernel_rfl) ?_) | (refine wpList_store_mid rfl 107 (.tmp 51) (.tmp 49) rfl eg 0 (aO pl (.slice rd l.length rc) gm' hm' qM) rfl rfl HTH.out JX.out pg.out ?_))
  rw[←Su]
  clear Su hx
  refine wp_region_noPanic ?_
  refine wp_region_held_drew (S:=fun W=>W.rangeAt x 4 (Rc.bA qM)) (by kernel_rfl) Ws (fun cS=> ?_)
  refine wpAnyH_take (i:=0) (v:= ?_) rfl (by kernel_rfl) (by kernel_rfl) (by kernel_rfl) (fun _ _ _ h=>h) (Or.inl ⟨by rfl, ?_⟩) (by assumption) ?_
  rotate_left
  · intro wS jj
    go_simp
    with_reducible rfl
  simp only[Act.put,List.setIfInBounds_toArray,List.set_cons_zero,List.set_cons_succ]
  refine wpAnyH_take (i:=1) (v:= ?_) rfl (by kernel_rfl) (by kernel_rfl) (by kernel_rfl) (fun _ _ _ h=>h) (Or.inl ⟨by rfl, ?_⟩) (by assumption) ?_
  rotate_left
  · intro wS jj
    go_simp
    with_reducible rfl
  simp only[Act.put,List.setIfInBounds_toArray,List.set_cons_zero,List.set_cons_succ]
  refine wpAnyH_take (i:=2) (v:= ?_) rfl (by kernel_rfl) (by kernel_rfl) (by kernel_rfl) (fun _ _ _ h=>h) (Or.inl ⟨by rfl, ?_⟩) (by assumption) ?_
  rotate_left
  · intro wS jj
    go_simp
    with_reducible rfl
  simp only[Act.put,List.setIfInBounds_toArray,List.set_cons_zero,List.set_cons_succ]
  refine wpAnyH_take (i:=3) (v:= ?_) rfl (by kernel_rfl) (by kernel_rfl) (by kernel_rfl) (fun _ _ _ h=>h) (Or.inl ⟨by rfl, ?_⟩) (by assumption) ?_
  rotate_left
  · intro wS jj
    go_simp
    with_reducible rfl
  simp only[Act.put,List.setIfInBounds_toArray,List.set_cons_zero,List.set_cons_succ]
  refine wpAnyH_take (i:=5) (v:= ?_) rfl (by kernel_rfl) (by kernel_rfl) (by kernel_rfl) (fun _ _ _ h=>h) (Or.inl ⟨by rfl, ?_⟩) (by assumption) ?_
  rotate_left
  · intro wS jj
    go_simp
    with_reducible rfl
  simp only[Act.put,List.setIfInBounds_toArray,List.set_cons_zero,List.set_cons_succ]
  refine wpAnyH_take (i:=6) (v:= ?_) rfl (by kernel_rfl) (by kernel_rfl) (by kernel_rfl) (fun _ _ _ h=>h) (Or.inl ⟨by rfl, ?_⟩) (by assumption) ?_
  rotate_left
  · intro wS jj
    go_simp
    with_reducible rfl
  simp only[Act.put,List.setIfInBounds_toArray,List.set_cons_zero,List.set_cons_succ]
  refine wpAnyH_take (i:=7) rfl (by kernel_rfl) (by kernel_rfl) (by kernel_rfl) (fun _ _ _ h=>h) (yieldsIf_load_mid (by rfl) _ _ rfl x 4 rfl (Rc.bA qM) _ (fun _ h=>h) hu5 rfl Yz) (by assumption) ?_
  simp only[Act.put,List.setIfInBounds_toArray,List.set_cons_zero,List.set_cons_succ]
  refine wpAnyH_ready (rs:=[4]) (by kernel_rfl) (by simp) ?_
  refine AllReadyH.cons rfl (fun Kq ie=> ?_) AllReadyH.nil
  go_simp
  refine ie.out _ _ Ws (fun UL=> ?_)
  clear ie Kq
  refine wpAnyH_ready (rs:=[8]) (by kernel_rfl) (by simp) ?_
  refine AllReadyH.cons rfl (fun Kq ie=> ?_) AllReadyH.nil
  go_simp
  refine(IG.out _ (by exact(Below.refl _ _).drew)).mono ?_
  rintro e w4 ⟨vd,vn,vc,rfl,c36,f36,hr4,HF⟩
  refine ie.out _ _ hr4 (fun aci=> ?_)
  clear ie Kq cS UL
  refine wpAnyH_take (i:=9) (v:= ?_) rfl (by kernel_rfl) (by kernel_rfl) (by kernel_rfl) (fun _ _ _ h=>h) (Or.inl ⟨by rfl, ?_⟩) (by assumption) ?_
  rotate_left
  · intro wS jj
    go_simp
    with_reducible rfl
  simp only[Act.put,List.setIfInBounds_toArray,List.set_cons_zero,List.set_cons_succ]
  refine wpAnyH_take (i:=10) (v:= ?_) rfl (by kernel_rfl) (by kernel_rfl) (by kernel_rfl) (fun _ _ _ h=>h) (Or.inl ⟨by rfl, ?_⟩) (by assumption) ?_
  rotate_left
  · intro wS jj
    go_simp
    with_reducible rfl
  simp only[Act.put,List.setIfInBounds_toArray,List.set_cons_zero,List.set_cons_succ]
  refine wpAnyH_ready (rs:=[11]) (by kernel_rfl) (by simp) ?_
  refine AllReadyH.cons rfl (fun Kq ie=> ?_) AllReadyH.nil
  go_simp
  refine ie.out _ _ (Ev hr4 VD _ _) (fun ach=> ?_)
  clear ie Kq
  refine wpAnyH_done (by kernel_rfl) ?_ _
  refine NoPanic.normal ?_
  go_wp2_with fail
  go_ret
  rw[←abW.out]
  exact⟨rfl,HF.out⟩
theorem LZ(K:Nat→Int)(w:World)(B eg:Nat)(kl:List Ax.ay)(gv:Nat→Bool)(n:Nat)(hE:nQ w B eg kl gv n)(hn:n≤2000000)(hK:Dg.uw w K)(hU:eW w)
 (cd:Option Addr)(cc:Nat)(cm:List FI)(gd:Option Addr)(gc:Nat)(gone:List FI)(LQ:bM w cd cc cm)(Ia:bM w gd gc gone)(ci gi:List Nat)(QM:fM cm ci)(P4:fM gone gi)(vD:cm.length≤30)(mO:gone.length≤30):
 Calls Tryz.prog 38 #[.pointer (some ⟨eg,0,none⟩),.slice cd cm.length cc,.slice gd gone.length gc] w fun e w'=>e=.returned (.int .i64 0)∧nQ w' B eg kl (ax (ax gv ci true) gi false) (n+1)∧p5 w w'∧Below B w w'∧wD K w w' eg ⟨(Rc.eY cm gone).toArray⟩:=
 (D9 K w B eg kl gv n hE hn hK hU cd cc cm gd gc gone LQ Ia ci gi QM P4 vD mO).mono (fun _ _ ⟨h1,h2,h3,h4,h5,_⟩=>⟨h1,h2,h3,h4,h5⟩)
end
/- What an engine answers of the 36 facts. -/
section
open Go.RowKit Go.Maps
def FJ(kl:List Ax.ay)(gv:Nat→Bool)(i:Nat):Nat:=(if i<4∧(En.ak (En.aj kl) gv i&&En.ak (En.aj kl) gv (4+5*i))=true then 1 else 0)+((if i<4∧(En.ak (En.aj kl) gv i&&En.ak (En.aj kl) gv (20+5*i))=true then 1 else 0)+((En.aj kl).map fun r=>En.jK (En.fo r (En.ak (En.aj kl) gv)) i).sum)
def ji(gv:Nat→Bool):Prop:=∀i,36≤i→gv i=false
theorem ji.set{gv:Nat→Bool}(h:ji gv){i:Nat}(hi:i<36)(b:Bool):ji (gA gv i b):=fun j hj=>by
 unfold gA
 rw[if_neg (by omega)]
 exact h j hj
theorem ji.gX{b:Bool}:∀(is:List Nat) {gv:Nat→Bool},ji gv→(∀i,i∈is→i<36)→ji (ax gv is b)
 | [],_,h,_=>h
 | i::is,_,h,hi=>ji.gX is (h.set (hi i (by simp)) b) (fun j hj=>hi j (by simp[hj]))
theorem Dj{kl:List Ax.ay}{gv:Nat→Bool}{s:En.dB En.cl}(hI:En.Inv (En.sR (En.aj kl)) (En.gF gv) s s.found.length):s.found.length≤36:=by
 have h1:=En.tj (En.th kl) hI
 have h2:s.found ⊆ (List.range 36).map En.uF:=by
  intro f hf
  obtain⟨i,hi,e⟩:=En.MH (h1 f hf)
  exact List.mem_map.2 ⟨i,by simpa using hi,e.symm⟩
 have:=List.Nodup.length_le_of_subset hI.nodup h2
 simpa using this
theorem KN{L:List (List ByteArray)}(ho:Tb.Ord L)(f:List ByteArray→Nat)(r:List ByteArray):Tb.Ag L (L.map f) r=if Tb.mg L r=true then f r else 0:=by
 unfold Tb.Ag
 by_cases h:Tb.mg L r=true
 · rw[if_pos h,if_pos h]
   have:=(Tb.fK ho r).2 (Tb.dY.1 h)
   simp[List.getD,this]
 · rw[if_neg h,if_neg h]
def o9(eg:Nat)(rv:Value)(gv:Nat→Bool):Array Value:=([Value.pointer (some ⟨eg,0,none⟩),rv]++ky gv).toArray
def fw(w:World)(sb eg:Nat)(rv:Value)(gv:Nat→Bool):Prop:=w.heap[sb]?=some (.cells (o9 eg rv gv) 43 (0,0))
theorem fw.below{w w':World}{sb eg:Nat}{rv:Value}{gv:Nat→Bool}(h:fw w sb eg rv gv)(hb:Below w.heap.size w w'):fw w' sb eg rv gv:=by
 unfold fw
 rw[hb.block _ (lt_of_heap h)]
 exact h
theorem fw.TW{w w':World}{sb eg:Nat}{rv:Value}{gv:Nat→Bool}(h:fw w sb eg rv gv)(hb:p5 w w'):fw w' sb eg rv gv:=hb.heap h (iE (by decide) (by decide))
theorem fw.cells{w:World}{sb eg:Nat}{rv:Value}{gv:Nat→Bool}(h:fw w sb eg rv gv):w.cell? ⟨sb,0,none⟩=some (.pointer (some ⟨eg,0,none⟩))∧w.cell? ⟨sb,1,none⟩=some rv∧∀i,i<36→w.cell? ⟨sb,2+i,none⟩=some (.bool (gv i)):=by
 refine⟨by rw[cell_of_row _ _ _ _ _ _ h];rfl,by rw[cell_of_row _ _ _ _ _ _ h];rfl, ?_⟩
 intro i hi
 rw[cell_of_row _ _ _ _ _ _ h]
 unfold o9
 rw[List.getElem?_toArray,List.getElem?_append_right (by simp)]
 simpa using oX gv hi
theorem nQ.below{w w':World}{B eg:Nat}{kl:List Ax.ay}{gv:Nat→Bool}{n:Nat}(h:nQ w B eg kl gv n)(hb:Below w.heap.size w w'):nQ w' B eg kl gv n:=by
 obtain⟨pl,rd,rc,l,gm,G,hm,T,s,hd,lv,ln,lx,eb,dN,he,hG,hR,hH,hI,hT,bS,nT,yS,EF⟩:=h.at_
 exact⟨⟨pl,rd,rc,l,gm,G,hm,T,s,hd,lv,ln,lx,by rw[hb.block _ (lt_of_heap eb)];exact eb,dN.below hb,he,hG.below hb,hR,hH.below hb,hI,hT,bS,ae nT hb,yS,EF⟩,h.ge⟩
end
/- axiomkeep: what text calls, as it calls it. -/
section
open Go.RowKit
structure Tw(w:World)(g o:Nat)(r:Ax.ay):Prop where
 head:tC w g o r.head
 body:∃bd bn bc,w.cell? ⟨g,o+3,none⟩=some (.slice bd bn bc)∧gV w bd bn bc r.body
structure qY(w:World)(ad:Option Addr)(n c:Nat)(l:List Ax.ay):Prop where
 len:l.length=n
 cap:n≤c
 max:c≤maxLen
 at_:∀k (h:k<l.length),∃g o,ad=some ⟨g,o,none⟩∧Tw w g (o+k*4) l[k]
theorem xY:∀(ts:List Nat) (i:Nat) (p:ByteArray),(lp ts i p).size≤p.size+3*ts.length
 | [],_,p=>by simp[lp]
 | x::l,i,p=>by
  rw[lp]
  have h:=xY l (i+1) (fO i p x)
  have hx:=CM x
  have hc:(⟨#[44]⟩:ByteArray).size=1:=rfl
  have hs:(fO i p x).size≤p.size+3:=by
   unfold fO
   split
   · rw[ByteArray.size_append,ByteArray.size_append];omega
   · rw[ByteArray.size_append];omega
  rw[List.length_cons]
  omega
theorem xi(p:Nat)(ts:List Nat)(h:ts.length≤2):(uQ p ts).size≤12:=by
 unfold uQ
 have h1:=xY ts 0 (Ax.cu p++⟨#[40]⟩)
 have h2:=xE p
 have h3:(⟨#[40]⟩:ByteArray).size=1:=rfl
 have h4:(⟨#[41]⟩:ByteArray).size=1:=rfl
 rw[ByteArray.size_append]at h1 ⊢
 omega
theorem rA(a:Ax.dV):∀x,x∈Ax.bW a→x<7:=by
 intro x hx
 have h1:=Ax.eB a.a 7 (by decide)
 have h2:=Ax.eB a.b 7 (by decide)
 unfold Ax.bW at hx
 split at hx
 · simp at hx;omega
 · simp at hx;omega
theorem zP(r:Ax.ay):0<(Ax.eH r).length∧(Ax.eH r).length≤2:=by
 unfold Ax.eH
 rw[List.length_map]
 exact kL r.head
theorem DQ(r:Ax.ay):∀x,x∈Ax.eH r→x<7:=by
 intro x hx
 unfold Ax.eH at hx
 obtain⟨y,hy,rfl⟩:=List.mem_map.1 hx
 have:=rA r.head y hy
 split<;>omega
def U8(B:Nat)(w:World)(d:Option Addr)(c:Nat)(ts:List Nat):Prop:=w.ownsRow B 3 1 (.slice d ts.length c) ts.length (aA ts)
theorem QK{w:World}{ad:Option Addr}{n c:Nat}{r:Ax.ay}(hB:gV w ad n c r.body)(h0:cr r.head.pred)(h1:cr r.head.a)(h2:cr r.head.b)(T:List Nat)(hT:Ax.eH r=T):∀W,Below w.heap.size w W→
 Calls Tryz.prog 62 #[.agg #[.int .i64 r.head.pred,.int .i64 r.head.a,.int .i64 r.head.b,.slice ad n c]] W fun e w'=>∃d c',e=.returned (.slice d T.length c')∧U8 w.heap.size w' d c' T∧Below w.heap.size w w':=by
 intro W hb
 subst hT
 refine(Oy W r ad n c (hB.below hb) h0 h1 h2).mono ?_
 rintro e w' ⟨d,c',rfl,ho,wy⟩
 exact⟨d,c',rfl,aG ho hb.size,hb.trans (wy.mono hb.size)⟩
theorem MY{w:World}{a:Ax.dV}(h0:cr a.pred)(h1:cr a.a)(h2:cr a.b)(T:List Nat)(hT:Ax.bW a=T):∀W,Below w.heap.size w W→
 Calls Tryz.prog 64 #[.agg #[.int .i64 a.pred,.int .i64 a.a,.int .i64 a.b]] W fun e w'=>∃d c',e=.returned (.slice d T.length c')∧U8 w.heap.size w' d c' T∧Below w.heap.size w w':=by
 intro W hb
 subst hT
 refine(qu W a h0 h1 h2).mono ?_
 rintro e w' ⟨d,c',rfl,ho,wy⟩
 exact⟨d,c',rfl,aG ho hb.size,hb.trans (wy.mono hb.size)⟩
theorem vZ{w:World}{p:Int}(hp:cr p)(T:List Nat)(h2:T.length≤2)(h7:∀x,x∈T→x<7)(A:ByteArray)(hA:uQ (Ax.bk p 3) T=A):∀W d c,Below w.heap.size w W→U8 w.heap.size W d c T→
 Calls Tryz.prog 61 #[.int .i64 p,.slice d T.length c] W fun e w'=>e=.returned (.string A)∧Below w.heap.size w w':=by
 intro W d c hb ho
 subst hA
 refine(DZ W p hp _ d c T ho (by omega) h7 _ rfl).mono ?_
 rintro e w' ⟨rfl,wy⟩
 exact⟨rfl,hb.trans (wy.mono hb.size)⟩
theorem Qf{w:World}{ad:Option Addr}{n c:Nat}{l:List Ax.dV}(h:gV w ad n c l)(p a b:Int)(m:Nat)(hm:min n 2=m):∀W,Below w.heap.size w W→Calls Tryz.prog 63 #[.agg #[.int .i64 p,.int .i64 a,.int .i64 b,.slice ad n c]] W fun e w'=>e=.returned (.slice ad m c)∧Below w.heap.size w w':=by
 intro W hb
 subst hm
 refine(Db h p a b W).mono ?_
 rintro e w' ⟨rfl,wy⟩
 exact⟨rfl,hb.trans (wy.mono hb.size)⟩
end
end Go.Proofs.YtdmicblafmhflaaGreatDoor
