/- Engine.Apply, walked. -/
import Derived.Test.YtdmicblafmhflaaGreatDoorC35
import Derived.Test.YtdmicblafmhflaaGreatDoorC11
import Derived.Test.YtdmicblafmhflaaGreatDoorC10
set_option linter.unusedSimpArgs false
set_option linter.unusedVariables false
set_option maxHeartbeats 4000000
set_option maxRecDepth 100000
namespace Go.Proofs.YtdmicblafmhflaaGreatDoor
section
open Go.RowKit Go.Maps
structure iy(w:World)(eg:Nat)(hd:List UInt8)(lg:List Value)(lv:Value):Prop where
 at_:∃pl rv gm hm,w.heap[eg]?=some (.cells (bE pl rv gm hm hd lv) 109 (0,0))
 Si:hd.length=32
 log:w.ownsRow 0 5 1 lv lg.length lg
theorem iy.below{w w':World}{eg:Nat}{hd:List UInt8}{lg:List Value}{lv:Value}(h:iy w eg hd lg lv)(hb:Below w.heap.size w w'):iy w' eg hd lg lv:=by
 obtain⟨pl,rv,gm,hm,e⟩:=h.at_
 exact⟨⟨pl,rv,gm,hm,by rw[hb.block _ (lt_of_heap e)];exact e⟩,h.Si,ah h.log hb⟩
theorem GR:∀{a b:List UInt8},Rc.bP a=Rc.bP b→a=b
 | [],[],_=>rfl
 | [],_::_,h=>by simp[Rc.bP]at h
 | _::_,[],h=>by simp[Rc.bP]at h
 | x::a,y::b,h=>by
  simp only[Rc.bP,List.map_cons,List.cons.injEq,Value.int.injEq,true_and]at h
  have h1:x=y:=by
   apply UInt8.toNat_inj.1
   have:=h.1
   omega
  rw[h1,GR (a:=a) (b:=b) h.2]
theorem og{pl pl':ByteArray}{rv rv':Value}{gm gm' hm hm':Nat}{hd kJ:List UInt8}{lv vk:Value}(h:hd.length=32)(h':kJ.length=32)(e:bE pl rv gm hm hd lv=bE pl' rv' gm' hm' kJ vk):hd=kJ∧lv=vk:=by
 unfold bE at e
 have e1:=congrArg Array.toList e
 simp only[List.cons_append,List.nil_append,List.cons.injEq]at e1
 obtain⟨_,_,_,_,e2⟩:=e1
 have e3:=List.append_inj e2 (by rw[Rc.bN,Rc.bN,h,h'])
 exact⟨GR e3.1,by simpa using e3.2⟩
theorem BE{w:World}{B C:Nat}{e:TypeId}{v:Value}{n m:Nat}{xs ys:List Value}(h:w.ownsRow B e 1 v n xs)(k:w.ownsRow C e 1 v m ys):n=m∧xs=ys:=by
 rcases h.2 with⟨e1,e2⟩ | ⟨g,cap,cur,e1,_,hg,_,_,_,ht⟩
 · rcases k.2 with⟨f1,f2⟩ | ⟨g',E4,lN,f1,_⟩
   · have h1:=h.1
     have k1:=k.1
     have hx:xs=[]:=List.eq_nil_of_length_eq_zero (by omega)
     have hy:ys=[]:=List.eq_nil_of_length_eq_zero (by omega)
     exact⟨by omega,by rw[hx,hy]⟩
   · rw[e1]at f1
     cases f1
 · rcases k.2 with⟨f1,f2⟩ | ⟨g',E4,lN,f1,_,Wn,_,_,_,nT⟩
   · rw[e1]at f1
     cases f1
   · rw[e1]at f1
     simp only[Value.slice.injEq,Option.some.injEq,Addr.mk.injEq,and_true]at f1
     obtain⟨rfl,rfl,_⟩:=f1
     rw[hg]at Wn
     simp only[Option.some.injEq,Obj.cells.injEq,and_true]at Wn
     subst Wn
     exact⟨rfl,ht.symm.trans nT⟩
theorem nG.hd{w:World}{B eg:Nat}{kl:List Ax.aA}{gv:Nat→Bool}{n:Nat}(hE:nG w B eg kl gv n):∃hd lg lv,iy w eg hd lg lv:=by
 obtain⟨pl,rd,rc,l,gm,G,hm,T,s,hd,lv,ln,lx,eb,dS,he,hG,hR,hH,hI,hT,cu,mz,xM,uX⟩:=hE.at_
 have hl:lx.length=ln:=by have:=mz.1;omega
 exact⟨hd,lx,lv,⟨_,_,_,_,eb⟩,cu,by rw[hl];exact aE mz (Nat.zero_le _)⟩
def AY(K:Nat→Int)(w w':World)(eg:Nat)(ct:ByteArray):Prop:=∀hd lg lv,iy w eg hd lg lv→∃vk,iy w' eg (iA K hd ct) (lg++Rc.bP (Rc.aS ct++iA K hd ct)) vk∧Kb (eg::lv.ownBlock.toList) w w'∧cr w lv vk
def pF(w:World)(B eg:Nat)(kl:List Ax.aA)(gv:Nat→Bool)(n f:Nat):Prop:=∀(S:List Nat) (W:World),Kb S w W→(∀b,b∈S→∃(cur:Array Value) (t:TypeId) (fz:Nat×Nat),w.heap[b]?=some (.cells cur t fz)∧(t=43∨(t=3∨t=9)∧b<f))→nG W B eg kl gv n
theorem pF.Hu{w:World}{B eg:Nat}{kl:List Ax.aA}{gv:Nat→Bool}{n f:Nat}(h:pF w B eg kl gv n f):nG w B eg kl gv n:=h [] w (Kb.refl _ _) (fun b hb=>by cases hb)
theorem QI{w:World}{B eg:Nat}{kl:List Ax.aA}{gv:Nat→Bool}{n f:Nat}{pl:ByteArray}{rd:Option Addr}{rc:Nat}{l:List MR}{gm:Nat}{G:List GT}{hm:Nat}{T:List HT}{s:En.dH En.b7}{hd:List UInt8}{lv:Value}{ln:Nat}{lx:List Value}
 (eb:w.heap[eg]?=some (.cells (bE pl (.slice rd l.length rc) gm hm hd lv) 109 (0,0)))(dS:aX w rd rc l)(he:(l.map MR.ay).map Ax.lj=Ax.gR kl)(hG:kY w gm G)(hR:gh G gv)(hH:pe w hm T s)(hI:En.Inv (En.sR (En.af kl)) (En.gF gv) s s.found.length)(hT:∀p,p∈T.map gX↔p∈jW)(cu:hd.length=32)(mz:w.ownsRow B 5 1 lv ln lx)(xM:ln≤1000*n)(la:pl=Ax.aC kl)(ge:B≤eg)(hf:∀y,y∈cG hm T→f≤y):pF w B eg kl gv n f:=by
 intro S W hk hS
 have jK:∀(b:Nat) (cur:Array Value) (t:TypeId) (fz:Nat×Nat),w.heap[b]?=some (.cells cur t fz)→t≠43→(t≠3∨f≤b)→t≠9→¬b∈S:=by
  intro b cur t fz e h1 h2 h3 hm
  obtain⟨lN,t',Sa,e2,ht⟩:=hS b hm
  rw[e]at e2
  simp at e2
  obtain⟨_,e3,_⟩:=e2
  subst e3
  rcases ht with ht | ⟨ht | ht,aG⟩
  · exact h1 ht
  · rcases h2 with h2 | h2
    · exact h2 ht
    · omega
  · exact h3 ht
 have ET:∀(b:Nat) (o:Obj),w.heap[b]?=some o→(∀cur t fz,o≠ .cells cur t fz)→¬b∈S:=by
  intro b o e h1 hm
  obtain⟨lN,t',Sa,e2,_⟩:=hS b hm
  rw[e]at e2
  exact h1 _ _ _ (Option.some.inj e2)
 refine⟨⟨pl,rd,rc,l,gm,G,hm,T,s,hd,lv,ln,lx,hk.heap eb (jK _ _ _ _ eb (by decide) (.inl (by decide)) (by decide)),dS.kept hk ?_,he,hG.kept hk ?_,hR,hH.kept hk ?_,hI,hT,cu,hk.fC mz ?_,xM,la⟩,ge⟩
 · intro b cur U hb e
   refine⟨?_, ?_, ?_⟩<;>(rintro rfl;exact jK b _ _ _ e (by decide) (.inl (by decide)) (by decide) hb)
 · intro b hb
   unfold eO at hb
   rcases List.mem_cons.1 hb with rfl | hb
   · obtain⟨es,ck,e⟩:=hG.map.block
     exact ET _ _ e (fun _ _ _ h=>by cases h)
   · obtain⟨u,hu,hb⟩:=List.mem_flatMap.1 hb
     obtain⟨cur,U,e,hU⟩:=(hG.bR u hu).types hb
     refine jK _ _ _ _ e ?_ (.inl ?_) ?_<;>(rcases hU with rfl | rfl<;>decide)
 · intro b hb
   have VG:=hf b hb
   unfold cG at hb
   rcases List.mem_cons.1 hb with rfl | hb
   · obtain⟨es,ck,e⟩:=hH.map.block
     exact ET _ _ e (fun _ _ _ h=>by cases h)
   · obtain⟨u,hu,hb⟩:=List.mem_flatMap.1 hb
     obtain⟨cur,U,e,hU⟩:=(hH.bR u hu).types hb
     refine jK _ _ _ _ e ?_ (.inr VG) ?_<;>(rcases hU with rfl | rfl | rfl<;>decide)
 · intro b cur fz hb e
   exact jK b _ _ _ e (by decide) (.inl (by decide)) (by decide) hb
theorem Od(K:Nat→Int)(w:World)(B eg:Nat)(kl:List Ax.aA)(gv:Nat→Bool)(n:Nat)(hE:nG w B eg kl gv n)(hn:n≤2000000)(hK:Dg.AR w K)(hU:eM w)
 (cd:Option Addr)(cc:Nat)(dX:List FI)(gd:Option Addr)(gc:Nat)(gone:List FI)(Pk:dW w cd cc dX)(Po:dW w gd gc gone)(ci gi:List Nat)(Uw:mq dX ci)(Tz:mq gone gi)(xI:dX.length≤30)(mO:gone.length≤30):
 Calls Tryz.prog 38 #[.pointer (some ⟨eg,0,none⟩),.slice cd dX.length cc,.slice gd gone.length gc] w fun e w'=>e=.returned (.int .i64 0)∧nG w' B eg kl (aB (aB gv ci true) gi false) (n+1)∧qx w w'∧Below B w w'∧AY K w w' eg ⟨(Rc.fL dX gone).toArray⟩∧pF w' B eg kl (aB (aB gv ci true) gi false) (n+1) w.heap.size:=by
 obtain⟨pl,rd,rc,l,gm,G,hm,T,s,hd,lv,ln,lx,eb,dS,he,hG,hR,hH,hI,hT,cu,mz,xM,uX⟩:=hE.at_
 have HPN:Hid (pl=Ax.aC kl):=uX
 have HEL:Hid (w.heap[eg]?=some (.cells (bE pl (.slice rd l.length rc) gm hm hd lv) 109 (0,0))∧w.ownsRow B 5 1 lv ln lx∧hd.length=32):=⟨eb,mz,cu⟩
 clear uX
 have hBe:=hE.ge
 obtain⟨k0,k1,k2,k3,k4,k5⟩:=n9 eb cu
 have I4:=lt_of_heap eb
 generalize hgv:aB (aB gv ci true) gi false=RC
 have TX:Hid (Calls Tryz.prog 68 #[.pointer (some ⟨eg,0,none⟩),.slice cd dX.length cc,.slice gd gone.length gc] w fun e w'=>∃gm',e=.returned (.tuple #[.map (some gm'),.bool true])∧Hid (uy w w' gm' RC)):=by
  refine(D5 w eg gm hm G gv T s k2 k3 hG hR hH hT hU cd cc dX gd gc gone Pk Po ci gi Uw Tz (by omega) (by omega)).mono ?_
  rintro e w' ⟨gm',rfl,h⟩
  rw[hgv]at h
  exact⟨gm',rfl,h⟩
 obtain⟨ct,Pn⟩:∃ct:ByteArray,ct=⟨(Rc.fL dX gone).toArray⟩:=⟨_,rfl⟩
 have abm:ct.size≤602:=by
  have:=Dd Uw Tz xI mO
  rw[Pn]
  exact this
 have RN:Hid (∀W,Below w.heap.size w W→Calls Tryz.prog 69 #[.slice cd dX.length cc,.slice gd gone.length gc] W fun e w'=>e=.returned (.string ct)∧Below W.heap.size W w'):=by
  intro W hW
  rw[Pn]
  exact De W cd cc dX gd gc gone (Pk.below hW) (Po.below hW) (Uw.small xI) (Tz.small mO)
 obtain⟨pN,Qw⟩:∃pN,pN=iA K hd ct:=⟨_,rfl⟩
 have im:pN.length=32:=by rw[Qw];exact JO _ _ _
 have M3:Hid (pN=iA K hd ct):=Qw
 have acw:Hid (ct=⟨(Rc.fL dX gone).toArray⟩):=Pn
 have HHE:Hid (∀w1 b W,Below w.heap.size w w1→AI w1 b W→Calls Tryz.prog 70 #[.agg (Rc.bP hd).toArray,.string ct] W fun e w'=>e=.returned (.agg (Rc.bP pN).toArray)∧AI w1 b w'):=by
  intro w1 b W qa hW
  rw[Qw]
  refine(EN K W hd ct (hK.below (qa.trans (hW.aQ.mono qa.size))) cu (by omega)).mono ?_
  rintro e w' ⟨rfl,hb⟩
  exact⟨rfl,hW.below hb⟩
 have JE:Hid (∀w1 gm' b W,uy w w1 gm' RC→AI w1 b W→Calls Tryz.prog 57 #[.agg #[.string pl,.slice rd l.length rc],.map (some gm'),.agg (Rc.bP pN).toArray] W fun e w'=>∃hm',e=.returned (.tuple #[.agg (aL pl (.slice rd l.length rc) gm' hm' pN),.bool true])∧uN (aL pl (.slice rd l.length rc) gm' hm' pN) b w'∧AE w1 kl RC hm' b w'):=by
  intro w1 gm' b W hC hW
  obtain⟨N,g1,g2,g3⟩:=hC.at_
  have sJ:Below w.heap.size w W:=hC.aQ.trans (hW.aQ.mono hC.aQ.size)
  have Wi:=g1.below hW.aQ
  obtain⟨Ce,_,EE⟩:=ky (dS.below sJ) he
  have cE:l≠[]:=by
   rintro rfl
   simp[Ax.gR,Ax.nO]at he
  have dj:∀Q,Pd.vp Q→(∀p,p∈Q↔p∈bQ (l.map MR.ay))→∃s,fu (l.map MR.ay) (dz Q N)=some s∧En.Inv (En.sR (En.af kl)) (En.gF RC) s s.found.length:=fun Q _ hQ=>om he g2 g1.names hQ
  refine(xA W _ rd rc l Ce EE (pq he) cE (fun p hp=>Nat.le_trans (dO p ((eZ he p).1 hp)) (by decide)) gm' N Wi ?_ (Nat.le_trans (g2.sum g1.names (fun t ht=>bW.ord (g1.bR t ht))) (by decide)) pN im ?_).mono ?_
  · intro p hp
    obtain⟨t,ht,e,_⟩:=g2.has (p:=p.1) (n:=p.2) ((eZ he p).1 hp)
    rw[←e]
    exact List.mem_map_of_mem ht
  · intro Q h1 h2
    obtain⟨s,e,_⟩:=dj Q h1 h2
    rw[e]
    rfl
  · rintro e w' ⟨hm',T',s',Q,rfl,m1,m2,m3,m4,m5,m6,m7⟩
    have h2:=hW.below m7
    obtain⟨s2,e1,e2⟩:=dj Q m1 m2
    have hs:s2=s':=by
     rw[m3]at e1
     exact(Option.some.inj e1).symm
    subst hs
    refine⟨hm',rfl,Mx h2 (aJ _ _ _ _ im) (gO _ _ _ _ _ _ _),h2,T',s2,m4,e2, ?_, ?_⟩
    · intro p
      rw[m5,List.mem_reverse,m2]
      exact eZ he p
    · refine⟨fun x hx y hy=> ?_,fun y hy=>Nat.le_trans hW.aQ.size (m6 y hy)⟩
      obtain⟨_,Z,k2,_⟩:=hW.cP x hx
      have k3:=lt_of_heap k2
      have:=m6 y hy
      omega
 have HEB:Hid (w.heap[eg]?=some (.cells (bE pl (.slice rd l.length rc) gm hm hd lv) 109 (0,0))):=eb
 have RB:Hid (aX w rd rc l):=dS
 have HE:Hid ((l.map MR.ay).map Ax.lj=Ax.gR kl):=he
 have HLG:Hid (w.ownsRow B 5 1 lv ln lx):=mz
 have hlen:dX.length+gone.length≤60:=by omega
 have St:=be Pk.row
 have R6:=be Po.row
 clear hE eb dS he hG hR hH hI hT mz hK hU Pk Po Uw Tz hgv Pn Qw k4 k5 k2 k3
 go_enter Tryz.func38,Tryz.ntmps38
 go_upto_region 7 with(first | (go_at_call 68;refine TX.out.mono ?_;rintro e w0 ⟨gm',rfl,R1⟩) | (go_at_call 69;refine(RN.out _ (by exact R1.out.aQ)).mono ?_;rintro e w1 ⟨rfl,bq⟩))
 have HC1:Hid (uy w w1 gm' RC):=R1.out.below bq
 have lh:Hid (Below w.heap.size w w1):=HC1.out.aQ
 have hA1:AI w1 none w1:=⟨Below.refl _ _,fun x h=>by cases h⟩
 have lA:Hid (∀W,Below w1.heap.size w1 W→W.cell? ⟨eg,0,none⟩=some (.string pl)∧W.cell? ⟨eg,1,none⟩=some (.slice rd l.length rc)∧W.rangeAt eg 4 (Rc.bP hd)):=by
  intro W hW
  have hb:=lh.out.trans (hW.mono lh.out.size)
  have h9:W.heap[eg]?=some (.cells (bE pl (.slice rd l.length rc) gm hm hd lv) 109 (0,0)):=by rw[hb.block _ I4];exact HEB.out
  obtain⟨q0,q1,q2,q3,q4,q5⟩:=n9 h9 cu
  exact⟨q0,q1,q4⟩
 have hu5:=Tryz.underlying105
 have J7:(Tryz.prog.info? 105).map (·.size)=some (Rc.bP hd).length:=by
  rw[Rc.bN,cu]
  kernel_rfl
 clear TX RN bq R1
 go_cut [8,10]from 29 (fun v8 v10 wx=>Hid (Xu w1 kl RC pl (.slice rd l.length rc) gm' pN v8 v10 wx))
 case first=>
  go_region_held3 (fun W=>W.cell? ⟨eg,0,none⟩=some (.string pl)∧W.cell? ⟨eg,1,none⟩=some (.slice rd l.length rc)∧W.rangeAt eg 4 (Rc.bP hd)) (first | (exact lA.out _ (AI.aQ (by assumption))) | (exact lA.out _ (AI.aQ (AI.drew (by assumption)))) | (exact lA.out _ (AI.aQ (AI.alloc (by assumption) rfl))) | (exact lA.out _ (AI.aQ (AI.alloc (AI.drew (by assumption)) rfl))) | (exact lA.out _ (AI.aQ (AE.ai (by assumption)))) | (exact lA.out _ (AI.aQ (AE.ai (AE.alloc (by assumption) rfl)))) | (exact lA.out _ (AI.stored (AE.ai (by assumption)) (aJ _ _ _ _ im))) | (exact lA.out _ (AI.stored (AE.ai (AE.alloc (by assumption) rfl)) (aJ _ _ _ _ im)))) (first | (go_at_call 70;refine(HHE.out _ _ _ lh.out (by first | assumption | exact AI.drew (by assumption) | exact AI.alloc (by assumption) rfl | exact AI.alloc (AI.drew (by assumption)) rfl)).mono ?_;rintro e wn ⟨rfl,hN⟩) | (go_at_call 57;refine(JE.out _ _ _ _ HC1.out (by first | assumption | exact AI.drew (by assumption) | exact AI.alloc (by assumption) rfl | exact AI.alloc (AI.drew (by assumption)) rfl)).mono ?_;rintro e wn ⟨hm',rfl,eL,hE⟩;unfold uN at eL;dsimp only at eL;(try simp only[World.size_drew]at eL);have cR:=aJ pl (.slice rd l.length rc) gm' hm' im))
  all_goals
   (go_wp2_with fail
    go_meet
    first
    | exact AE.cut (by assumption) im
    | exact AE.cut (AE.alloc (by assumption) rfl) im)
 case rest=>
  obtain⟨Zo,x,hm',T',s',TA,lS,hx,hH',hI',hT',lC,yZ⟩:=hcut.out
  subst Zo
  subst TA
  have kE:Below w.heap.size w wc:=lh.out.trans (lC.mono lh.out.size)
  have Gn:wc.heap[eg]?=some (.cells (bE pl (.slice rd l.length rc) gm hm hd lv) 109 (0,0)):=by rw[kE.block _ I4];exact HEB.out
  obtain⟨eL,B0⟩:=KS (pl':=pl) (rv':=.slice rd l.length rc) (gm':=gm') (hm':=hm') Gn cu im
  have cR:=aJ pl (.slice rd l.length rc) gm' hm' im
  have HTH:Hid (wc.there eg 0 (aL pl (.slice rd l.length rc) gm' hm' pN).size):=by
   intro j hj
   rw[cell_of_row _ _ _ _ _ _ Gn]
   refine⟨?_,by simp[World.frozen?,Gn]⟩
   rw[Nat.zero_add,Array.getElem?_eq_getElem (by rw[rF _ _ _ _ _ cu];omega)]
   rfl
  have qA:Hid ((aL pl (.slice rd l.length rc) gm' hm' pN).all (·.oneCell')=true):=Array.all_eq_true_iff_forall_mem.2 (fun v hv=>gO _ _ _ _ _ _ _ v (by simpa using hv))
  have aei:Hid ((Tryz.prog.info? 107).map (·.size)=some (aL pl (.slice rd l.length rc) gm' hm' pN).size):=by
   rw[cR]
   exact(by kernel_rfl:(Tryz.prog.info? 107).map (·.size)=some 36)
  obtain⟨w3,RG⟩:∃w3,w3=wc.setCells eg 0 (aL pl (.slice rd l.length rc) gm' hm' pN).toList:=⟨_,rfl⟩
  rw[←RG]at eL B0
  have Vt:x≠eg:=by have:=lh.out.size;omega
  have D9:w3.heap[x]?=some (.cells (aL pl (.slice rd l.length rc) gm' hm' pN) 107 (0,0)):=B0.heap hx (by simpa using Vt)
  obtain⟨_,_,_,_,_,q36⟩:=n9 eL im
  have QK:w3.rangeAt x 4 (Rc.bP pN):=by
   intro j v hv
   have hu:(Rc.bP pN).length=32:=by rw[Rc.bN,im]
   have hj:j<32:=by rw[←hu];exact(List.getElem?_eq_some_iff.1 hv).1
   rw[cell_of_row _ _ _ _ _ _ D9]
   unfold aL
   rw[List.getElem?_toArray,List.getElem?_append_right (by simp)]
   simpa using hv
  have RO:qx w w3:=(qx.bM kE).trans (qx.rU B0 Gn)
  have Ue:Below B w w3:=B0.aU (kE.mono (by omega)) (by have:=kE.size;omega) (by simpa using hBe)
  have WN:Hid (w3.ownsRow B 5 1 lv ln lx):=B0.fC (ah HLG.out kE) (fun b cur fz hb e=>by
   simp at hb
   subst hb
   rw[Gn]at e
   simp at e)
  have Ld:Hid (∀W,Below w3.heap.size w3 W→Calls Tryz.prog 71 #[lv,.string ct,.agg (Rc.bP pN).toArray] W fun e w4=>∃vd vn vc,e=.returned (.slice vd vn vc)∧w4.cell? ⟨eg,36,none⟩=some lv∧w4.frozen? ⟨eg,36,none⟩=false∧w4.rangeAt x 4 (Rc.bP pN)∧Hid (nG (w4.setCell ⟨eg,36,none⟩ (.slice vd vn vc)) B eg kl RC (n+1)∧qx w (w4.setCell ⟨eg,36,none⟩ (.slice vd vn vc))∧Below B w (w4.setCell ⟨eg,36,none⟩ (.slice vd vn vc))∧AY K w (w4.setCell ⟨eg,36,none⟩ (.slice vd vn vc)) eg ct∧pF (w4.setCell ⟨eg,36,none⟩ (.slice vd vn vc)) B eg kl RC (n+1) w.heap.size)):=by
   intro W hW
   have hBs:B≤W.heap.size:=by have:=hW.size;have:=Ue.size;omega
   refine(CN B W lv ln lx ct pN (ah WN.out hW) hBs (by omega) (by omega) im).mono ?_
   rintro e w4 ⟨v',n',rfl,kI,hkw,hfw⟩
   obtain⟨vd,vc,rfl⟩:=aj kI.own
   have h34:qx w3 w4:=(qx.bM hW).trans (qx.Lb kI.Db kI.aQ)
   have Ju:w4.heap[eg]?=some (.cells (bE pl (.slice rd l.length rc) gm' hm' pN lv) 109 (0,0)):=kI.Db eg _ (by rw[hW.block _ (lt_of_heap eL)];exact eL) (by simp) (fun c fz e=>by simp at e)
   have hx4:w4.heap[x]?=some (.cells (aL pl (.slice rd l.length rc) gm' hm' pN) 107 (0,0)):=h34.heap D9 (iX (by decide) (by decide))
   have Sk:=Uq Ju im (.slice vd n' vc)
   have OH:Kb [eg] w4 (w4.setCell ⟨eg,36,none⟩ (.slice vd n' vc)):=Kb.setCell w4 ⟨eg,36,none⟩ _
   have h35:qx w3 (w4.setCell ⟨eg,36,none⟩ (.slice vd n' vc)):=h34.trans (qx.rU OH Ju)
   have hc5:qx wc (w4.setCell ⟨eg,36,none⟩ (.slice vd n' vc)):=(qx.rU B0 Gn).trans h35
   have VM:Below B w w4:=(Ue.trans (hW.mono (by have:=Ue.size;omega))).trans kI.aQ
   obtain⟨N,g1,g2,g3⟩:=HC1.out.at_
   have TU:AY K w (w4.setCell ⟨eg,36,none⟩ (.slice vd n' vc)) eg ct:=by
    intro hd0 lg lv0 hH
    obtain⟨pl0,rv0,gm0,hm0,e0⟩:=hH.at_
    rw[HEL.out.1]at e0
    simp only[Option.some.injEq,Obj.cells.injEq,and_true]at e0
    obtain⟨rfl,rfl⟩:=og HEL.out.2.2 hH.Si e0
    obtain⟨Z9,hxx⟩:=BE HEL.out.2.1 hH.log
    have hWw:w.heap.size≤W.heap.size:=by have:=hW.size;have:=B0.size;have:=kE.size;omega
    refine⟨.slice vd n' vc,⟨⟨_,_,_,_,by rw[←M3.out];exact Sk⟩,by rw[←M3.out];exact im, ?_⟩, ?_,hfw.mono hWw⟩
    · have h7:=OH.fC kI.own (fun b cur fz hb e=>by
       simp at hb
       subst hb
       rw[Ju]at e
       simp at e)
      have h8:=kI.len
      rw[hxx,M3.out]at h7 h8
      rw[h8]
      exact aE h7 (Nat.zero_le _)
    · have m1:Kb (eg::lv.ownBlock.toList) w wc:=Kb.bM kE _
      have m2:Kb (eg::lv.ownBlock.toList) wc w3:=B0.mono (fun i hi _=>by simp at hi;simp[hi])
      have m3:Kb (eg::lv.ownBlock.toList) w3 W:=Kb.bM hW _
      have m4:Kb (eg::lv.ownBlock.toList) W w4:=hkw.mono (fun i hi _=>by simp at hi;simp[hi])
      have m5:Kb (eg::lv.ownBlock.toList) w4 (w4.setCell ⟨eg,36,none⟩ (.slice vd n' vc)):=OH.mono (fun i hi _=>by simp at hi;simp[hi])
      exact(((m1.trans m2).trans m3).trans m4).trans m5
   have Xi:=OH.fC kI.own (fun b cur fz hb e=>by
    simp at hb
    subst hb
    rw[Ju]at e
    simp at e)
   have aaY:n'≤1000*(n+1):=by
    have h7:=kI.len
    have h8:=WN.out.1
    have h9:=I5 abm im
    rw[List.length_append,Rc.bN]at h7
    omega
   have hEP:=QI Sk ((RB.out.below kE).Un hc5) HE.out ((g1.below lC).Un hc5) g2 (hH'.Un hc5) hI' hT' im Xi aaY HPN.out hBe (f:=w.heap.size) (fun y hy=>Nat.le_trans lh.out.size (yZ y hy))
   refine⟨vd,n',vc,rfl,(n9 Ju im).2.2.2.2.2,by simp[World.frozen?,Ju], ?_,hEP.Hu,RO.trans h35,OH.aU VM (by have:=VM.size;omega) (by simpa using hBe),TU,hEP⟩
   · intro j v hv
     have hu:(Rc.bP pN).length=32:=by rw[Rc.bN,im]
     rw[cell_of_row _ _ _ _ _ _ hx4]
     unfold aL
     rw[List.getElem?_toArray,List.getElem?_append_right (by simp)]
     simpa using hv
  have HX1:Hid (w1.heap.size≤x):=lS
  have YD:(Tryz.prog.info? 105).map (·.size)=some (Rc.bP pN).length:=by
   rw[Rc.bN,im]
   kernel_rfl
  have aic:=lt_of_heap D9
  have akh:eg<w3.heap.size:=lt_of_heap eL
  clear hcut hH' hI' hT' yZ lC kE eL B0 Gn RO Ue D9 HHE JE lA lS
  go_wp2_with (first | (refine wpList_load_row rfl _ _ rfl x rfl _ _ _ _ hx Tryz.underlying107 rfl (by rw[cR];kernel_rfl) ?_) | (refine wpList_store_mid rfl 107 (.tmp 51) (.tmp 49) rfl eg 0 (aL pl (.slice rd l.length rc) gm' hm' pN) rfl rfl HTH.out aei.out qA.out ?_))
  rw[←RG]
  clear RG hx
  refine wp_region_noPanic ?_
  refine wp_region_held_drew (S:=fun W=>W.rangeAt x 4 (Rc.bP pN)) (by kernel_rfl) QK (fun cT=> ?_)
  refine wpAnyH_take (i:=0) (v:= ?_) rfl (by kernel_rfl) (by kernel_rfl) (by kernel_rfl) (fun _ _ _ h=>h) (Or.inl ⟨by rfl, ?_⟩) (by assumption) ?_
  rotate_left
  · intro wS jB
    go_simp
    with_reducible rfl
  simp only[Act.put,List.setIfInBounds_toArray,List.set_cons_zero,List.set_cons_succ]
  refine wpAnyH_take (i:=1) (v:= ?_) rfl (by kernel_rfl) (by kernel_rfl) (by kernel_rfl) (fun _ _ _ h=>h) (Or.inl ⟨by rfl, ?_⟩) (by assumption) ?_
  rotate_left
  · intro wS jB
    go_simp
    with_reducible rfl
  simp only[Act.put,List.setIfInBounds_toArray,List.set_cons_zero,List.set_cons_succ]
  refine wpAnyH_take (i:=2) (v:= ?_) rfl (by kernel_rfl) (by kernel_rfl) (by kernel_rfl) (fun _ _ _ h=>h) (Or.inl ⟨by rfl, ?_⟩) (by assumption) ?_
  rotate_left
  · intro wS jB
    go_simp
    with_reducible rfl
  simp only[Act.put,List.setIfInBounds_toArray,List.set_cons_zero,List.set_cons_succ]
  refine wpAnyH_take (i:=3) (v:= ?_) rfl (by kernel_rfl) (by kernel_rfl) (by kernel_rfl) (fun _ _ _ h=>h) (Or.inl ⟨by rfl, ?_⟩) (by assumption) ?_
  rotate_left
  · intro wS jB
    go_simp
    with_reducible rfl
  simp only[Act.put,List.setIfInBounds_toArray,List.set_cons_zero,List.set_cons_succ]
  refine wpAnyH_take (i:=5) (v:= ?_) rfl (by kernel_rfl) (by kernel_rfl) (by kernel_rfl) (fun _ _ _ h=>h) (Or.inl ⟨by rfl, ?_⟩) (by assumption) ?_
  rotate_left
  · intro wS jB
    go_simp
    with_reducible rfl
  simp only[Act.put,List.setIfInBounds_toArray,List.set_cons_zero,List.set_cons_succ]
  refine wpAnyH_take (i:=6) (v:= ?_) rfl (by kernel_rfl) (by kernel_rfl) (by kernel_rfl) (fun _ _ _ h=>h) (Or.inl ⟨by rfl, ?_⟩) (by assumption) ?_
  rotate_left
  · intro wS jB
    go_simp
    with_reducible rfl
  simp only[Act.put,List.setIfInBounds_toArray,List.set_cons_zero,List.set_cons_succ]
  refine wpAnyH_take (i:=7) rfl (by kernel_rfl) (by kernel_rfl) (by kernel_rfl) (fun _ _ _ h=>h) (yieldsIf_load_mid (by rfl) _ _ rfl x 4 rfl (Rc.bP pN) _ (fun _ h=>h) hu5 rfl YD) (by assumption) ?_
  simp only[Act.put,List.setIfInBounds_toArray,List.set_cons_zero,List.set_cons_succ]
  refine wpAnyH_ready (rs:=[4]) (by kernel_rfl) (by simp) ?_
  refine AllReadyH.cons rfl (fun Kq ix=> ?_) AllReadyH.nil
  go_simp
  refine ix.out _ _ QK (fun Vd=> ?_)
  clear ix Kq
  refine wpAnyH_ready (rs:=[8]) (by kernel_rfl) (by simp) ?_
  refine AllReadyH.cons rfl (fun Kq ix=> ?_) AllReadyH.nil
  go_simp
  refine(Ld.out _ (by exact(Below.refl _ _).drew)).mono ?_
  rintro e w4 ⟨vd,vn,vc,rfl,c36,f36,hr4,HF⟩
  refine ix.out _ _ hr4 (fun acG=> ?_)
  clear ix Kq cT Vd
  refine wpAnyH_take (i:=9) (v:= ?_) rfl (by kernel_rfl) (by kernel_rfl) (by kernel_rfl) (fun _ _ _ h=>h) (Or.inl ⟨by rfl, ?_⟩) (by assumption) ?_
  rotate_left
  · intro wS jB
    go_simp
    with_reducible rfl
  simp only[Act.put,List.setIfInBounds_toArray,List.set_cons_zero,List.set_cons_succ]
  refine wpAnyH_take (i:=10) (v:= ?_) rfl (by kernel_rfl) (by kernel_rfl) (by kernel_rfl) (fun _ _ _ h=>h) (Or.inl ⟨by rfl, ?_⟩) (by assumption) ?_
  rotate_left
  · intro wS jB
    go_simp
    with_reducible rfl
  simp only[Act.put,List.setIfInBounds_toArray,List.set_cons_zero,List.set_cons_succ]
  refine wpAnyH_ready (rs:=[11]) (by kernel_rfl) (by simp) ?_
  refine AllReadyH.cons rfl (fun Kq ix=> ?_) AllReadyH.nil
  go_simp
  refine ix.out _ _ (DO hr4 Vt _ _) (fun acT=> ?_)
  clear ix Kq
  refine wpAnyH_done (by kernel_rfl) ?_ _
  refine NoPanic.normal ?_
  go_wp2_with fail
  go_ret
  rw[←acw.out]
  exact⟨rfl,HF.out⟩
end
/- What an engine answers of the 36 facts. -/
section
open Go.RowKit Go.Maps
def lq(kl:List Ax.aA)(gv:Nat→Bool)(i:Nat):Nat:=(if i<4∧(En.al (En.af kl) gv i&&En.al (En.af kl) gv (4+5*i))=true then 1 else 0)+((if i<4∧(En.al (En.af kl) gv i&&En.al (En.af kl) gv (20+5*i))=true then 1 else 0)+((En.af kl).map fun r=>En.eA (En.cB r (En.al (En.af kl) gv)) i).sum)
def fX(gv:Nat→Bool):Prop:=∀i,36≤i→gv i=false
theorem fX.set{gv:Nat→Bool}(h:fX gv){i:Nat}(hi:i<36)(b:Bool):fX (fm gv i b):=fun j hj=>by
 unfold fm
 rw[if_neg (by omega)]
 exact h j hj
theorem fX.dh{b:Bool}:∀(is:List Nat) {gv:Nat→Bool},fX gv→(∀i,i∈is→i<36)→fX (aB gv is b)
 | [],_,h,_=>h
 | i::is,_,h,hi=>fX.dh is (h.set (hi i (by simp)) b) (fun j hj=>hi j (by simp[hj]))
theorem uI{kl:List Ax.aA}{gv:Nat→Bool}{s:En.dH En.b7}(hI:En.Inv (En.sR (En.af kl)) (En.gF gv) s s.found.length):s.found.length≤36:=by
 have h1:=En.tQ (En.mn kl) hI
 have h2:s.found ⊆ (List.range 36).map En.uF:=by
  intro f hf
  obtain⟨i,hi,e⟩:=En.NH (h1 f hf)
  exact List.mem_map.2 ⟨i,by simpa using hi,e.symm⟩
 have:=List.Nodup.length_le_of_subset hI.nodup h2
 simpa using this
theorem zT{L:List (List ByteArray)}(ho:Tb.Ord L)(f:List ByteArray→Nat)(r:List ByteArray):Tb.pR L (L.map f) r=if Tb.jT L r=true then f r else 0:=by
 unfold Tb.pR
 by_cases h:Tb.jT L r=true
 · rw[if_pos h,if_pos h]
   have:=(Tb.fM ho r).2 (Tb.dA.1 h)
   simp[List.getD,this]
 · rw[if_neg h,if_neg h]
theorem Rs{w:World}{B eg:Nat}{kl:List Ax.aA}{gv:Nat→Bool}{n:Nat}(hE:nG w B eg kl gv n)(hg:fX gv)(hU:eM w){i:Nat}(hi:i<36){av:Value}(pJ:w.ownsRow 0 9 1 av (bk i).2.length (strCells (bk i).2)):
 Calls Tryz.prog 21 #[.pointer (some ⟨eg,0,none⟩),.agg #[.string (bk i).1,av]] w fun e w'=>e=.returned (.tuple #[.agg #[.bool (gv i),.bool (En.al (En.af kl) gv i),.int .i64 (lq kl gv i:Nat)],.int .i64 0])∧Below w.heap.size w w':=by
 obtain⟨pl,rd,rc,l,gm,G,hm,T,s,hd,lv,ln,lx,eb,dS,he,hG,hR,hH,hI,hT,cu,mz,xM,uX⟩:=hE.at_
 obtain⟨k0,k1,k2,k3,k4,k5⟩:=n9 eb cu
 have pa:=kp hi
 obtain⟨t,ht,iJ,la⟩:=hR.has pa
 obtain⟨u,hu,nR⟩:=List.mem_map.1 ((hT _).2 pa)
 simp only[gX,Prod.mk.injEq]at nR
 have sI:(bk i).1.size≤1000000:=Nat.le_trans (dO _ pa) (by decide)
 have hlL:t.L.length≤36:=Nat.le_trans (mI ht) (hR.sum hG.names (fun t ht=>bW.ord (hG.bR t ht)))
 have LF:=uI hI
 have hlU:=hH.Cf u hu
 have h3:(bk i).2.length≤3:=by have:=lD i;omega
 have dj:=En.mn kl
 refine(QJ w eg gm hm G T s t u (bk i).1 (bk i).2 av k2 k3 hG hH ht hu iJ nR.1 sI (by omega) (by omega) pJ nR.2.symm h3 (fun a ha=>(fQ i a ha).1) (fun a ha=>Nat.le_trans (fQ i a ha).2 (by decide)) hU).mono ?_
 rintro e w' ⟨rfl,hb⟩
 have P7:(u.nm,Tb.dw (bk i).2)=En.uF i:=by rw[iN,nR.1]
 have X6:(t.nm,Tb.dw (bk i).2)=En.uF i:=by rw[iN,iJ]
 have e1:Tb.jT t.L (Tb.dw (bk i).2)=gv i:=by
  rw[Bool.eq_iff_iff,Tb.dA,hR.rows t ht]
  constructor
  · rintro⟨j,hj,hgj,e⟩
    rw[X6]at e
    rw[←En.qq hj hi e]
    exact hgj
  · intro h
    exact⟨i,hi,h,X6.symm⟩
 have e2:Tb.jT u.L (Tb.dw (bk i).2)=En.al (En.af kl) gv i:=by
  rw[Bool.eq_iff_iff,Tb.dA,hH.rows u hu,P7]
  exact En.pf dj hg hI hi
 have e3:Tb.pR u.L u.C (Tb.dw (bk i).2)=lq kl gv i:=by
  have Gh:Tb.Ord u.L:=(hH.bR u hu).nW.ord
  have hc:s.count (En.uF i)=lq kl gv i:=En.rQ dj hg hI hi
  rw[hH.tO u hu,zT Gh]
  by_cases h:Tb.jT u.L (Tb.dw (bk i).2)=true
  · rw[if_pos h,P7]
    exact hc
  · rw[if_neg h,←hc]
    rw[Tb.dA,hH.rows u hu,P7]at h
    exact(hH.zero _ h).symm
 rw[e1,e2,e3]
 exact⟨rfl,hb⟩
def jh(eg:Nat)(rv:Value)(gv:Nat→Bool):Array Value:=([Value.pointer (some ⟨eg,0,none⟩),rv]++dK gv).toArray
def dv(w:World)(sb eg:Nat)(rv:Value)(gv:Nat→Bool):Prop:=w.heap[sb]?=some (.cells (jh eg rv gv) 43 (0,0))
theorem dv.below{w w':World}{sb eg:Nat}{rv:Value}{gv:Nat→Bool}(h:dv w sb eg rv gv)(hb:Below w.heap.size w w'):dv w' sb eg rv gv:=by
 unfold dv
 rw[hb.block _ (lt_of_heap h)]
 exact h
theorem dv.Un{w w':World}{sb eg:Nat}{rv:Value}{gv:Nat→Bool}(h:dv w sb eg rv gv)(hb:qx w w'):dv w' sb eg rv gv:=hb.heap h (iX (by decide) (by decide))
theorem dv.cells{w:World}{sb eg:Nat}{rv:Value}{gv:Nat→Bool}(h:dv w sb eg rv gv):w.cell? ⟨sb,0,none⟩=some (.pointer (some ⟨eg,0,none⟩))∧w.cell? ⟨sb,1,none⟩=some rv∧∀i,i<36→w.cell? ⟨sb,2+i,none⟩=some (.bool (gv i)):=by
 refine⟨by rw[cell_of_row _ _ _ _ _ _ h];rfl,by rw[cell_of_row _ _ _ _ _ _ h];rfl, ?_⟩
 intro i hi
 rw[cell_of_row _ _ _ _ _ _ h]
 unfold jh
 rw[List.getElem?_toArray,List.getElem?_append_right (by simp)]
 simpa using mi gv hi
theorem nG.below{w w':World}{B eg:Nat}{kl:List Ax.aA}{gv:Nat→Bool}{n:Nat}(h:nG w B eg kl gv n)(hb:Below w.heap.size w w'):nG w' B eg kl gv n:=by
 obtain⟨pl,rd,rc,l,gm,G,hm,T,s,hd,lv,ln,lx,eb,dS,he,hG,hR,hH,hI,hT,cu,mz,xM,uX⟩:=h.at_
 exact⟨⟨pl,rd,rc,l,gm,G,hm,T,s,hd,lv,ln,lx,by rw[hb.block _ (lt_of_heap eb)];exact eb,dS.below hb,he,hG.below hb,hR,hH.below hb,hI,hT,cu,ah mz hb,xM,uX⟩,h.ge⟩
def cA(kl:List Ax.aA)(gv:Nat→Bool)(k:Nat):List Value:=(List.range k).flatMap fun i=>[.bool (gv i),.bool (En.al (En.af kl) gv i),.int .i64 (lq kl gv i:Nat)]
theorem iE(kl:List Ax.aA)(gv:Nat→Bool)(k:Nat):cA kl gv (k+1)=cA kl gv k++[.bool (gv k),.bool (En.al (En.af kl) gv k),.int .i64 (lq kl gv k:Nat)]:=by
 unfold cA
 rw[List.range_succ,List.flatMap_append]
 simp
end
/- axiomkeep: what text calls, as it calls it. -/
section
open Go.RowKit
structure BP(w:World)(g o:Nat)(r:Ax.aA):Prop where
 head:s7 w g o r.head
 body:∃bd bn bc,w.cell? ⟨g,o+3,none⟩=some (.slice bd bn bc)∧fo w bd bn bc r.body
structure eF(w:World)(ad:Option Addr)(n c:Nat)(l:List Ax.aA):Prop where
 len:l.length=n
 cap:n≤c
 max:c≤maxLen
 at_:∀k (h:k<l.length),∃g o,ad=some ⟨g,o,none⟩∧BP w g (o+k*4) l[k]
theorem wL:∀(ts:List Nat) (i:Nat) (p:ByteArray),(lH ts i p).size≤p.size+3*ts.length
 | [],_,p=>by simp[lH]
 | x::l,i,p=>by
  rw[lH]
  have h:=wL l (i+1) (fT i p x)
  have hx:=Dr x
  have hc:(⟨#[44]⟩:ByteArray).size=1:=rfl
  have hs:(fT i p x).size≤p.size+3:=by
   unfold fT
   split
   · rw[ByteArray.size_append,ByteArray.size_append];omega
   · rw[ByteArray.size_append];omega
  rw[List.length_cons]
  omega
theorem xC(p:Nat)(ts:List Nat)(h:ts.length≤2):(uz p ts).size≤12:=by
 unfold uz
 have h1:=wL ts 0 (Ax.cp p++⟨#[40]⟩)
 have h2:=xi p
 have h3:(⟨#[40]⟩:ByteArray).size=1:=rfl
 have h4:(⟨#[41]⟩:ByteArray).size=1:=rfl
 rw[ByteArray.size_append]at h1 ⊢
 omega
theorem so(a:Ax.eo):∀x,x∈Ax.a8 a→x<7:=by
 intro x hx
 have h1:=Ax.eJ a.a 7 (by decide)
 have h2:=Ax.eJ a.b 7 (by decide)
 unfold Ax.a8 at hx
 split at hx
 · simp at hx;omega
 · simp at hx;omega
theorem AD(r:Ax.aA):0<(Ax.di r).length∧(Ax.di r).length≤2:=by
 unfold Ax.di
 rw[List.length_map]
 exact kU r.head
theorem CX(r:Ax.aA):∀x,x∈Ax.di r→x<7:=by
 intro x hx
 unfold Ax.di at hx
 obtain⟨y,hy,rfl⟩:=List.mem_map.1 hx
 have:=so r.head y hy
 split<;>omega
def TW(B:Nat)(w:World)(d:Option Addr)(c:Nat)(ts:List Nat):Prop:=w.ownsRow B 3 1 (.slice d ts.length c) ts.length (an ts)
theorem Rj{w:World}{ad:Option Addr}{n c:Nat}{r:Ax.aA}(hB:fo w ad n c r.body)(h0:cn r.head.pred)(h1:cn r.head.a)(h2:cn r.head.b)(T:List Nat)(hT:Ax.di r=T):∀W,Below w.heap.size w W→
 Calls Tryz.prog 62 #[.agg #[.int .i64 r.head.pred,.int .i64 r.head.a,.int .i64 r.head.b,.slice ad n c]] W fun e w'=>∃d c',e=.returned (.slice d T.length c')∧TW w.heap.size w' d c' T∧Below w.heap.size w w':=by
 intro W hb
 subst hT
 refine(Ej W r ad n c (hB.below hb) h0 h1 h2).mono ?_
 rintro e w' ⟨d,c',rfl,ho,jR⟩
 exact⟨d,c',rfl,aE ho hb.size,hb.trans (jR.mono hb.size)⟩
theorem MO{w:World}{a:Ax.eo}(h0:cn a.pred)(h1:cn a.a)(h2:cn a.b)(T:List Nat)(hT:Ax.a8 a=T):∀W,Below w.heap.size w W→
 Calls Tryz.prog 64 #[.agg #[.int .i64 a.pred,.int .i64 a.a,.int .i64 a.b]] W fun e w'=>∃d c',e=.returned (.slice d T.length c')∧TW w.heap.size w' d c' T∧Below w.heap.size w w':=by
 intro W hb
 subst hT
 refine(kG W a h0 h1 h2).mono ?_
 rintro e w' ⟨d,c',rfl,ho,jR⟩
 exact⟨d,c',rfl,aE ho hb.size,hb.trans (jR.mono hb.size)⟩
theorem vM{w:World}{p:Int}(hp:cn p)(T:List Nat)(h2:T.length≤2)(h7:∀x,x∈T→x<7)(A:ByteArray)(hA:uz (Ax.aT p 3) T=A):∀W d c,Below w.heap.size w W→TW w.heap.size W d c T→
 Calls Tryz.prog 61 #[.int .i64 p,.slice d T.length c] W fun e w'=>e=.returned (.string A)∧Below w.heap.size w w':=by
 intro W d c hb ho
 subst hA
 refine(CH W p hp _ d c T ho (by omega) h7 _ rfl).mono ?_
 rintro e w' ⟨rfl,jR⟩
 exact⟨rfl,hb.trans (jR.mono hb.size)⟩
theorem PU{w:World}{ad:Option Addr}{n c:Nat}{l:List Ax.eo}(h:fo w ad n c l)(p a b:Int)(m:Nat)(hm:min n 2=m):∀W,Below w.heap.size w W→Calls Tryz.prog 63 #[.agg #[.int .i64 p,.int .i64 a,.int .i64 b,.slice ad n c]] W fun e w'=>e=.returned (.slice ad m c)∧Below w.heap.size w w':=by
 intro W hb
 subst hm
 refine(sF h p a b W).mono ?_
 rintro e w' ⟨rfl,jR⟩
 exact⟨rfl,hb.trans (jR.mono hb.size)⟩
end
end Go.Proofs.YtdmicblafmhflaaGreatDoor
