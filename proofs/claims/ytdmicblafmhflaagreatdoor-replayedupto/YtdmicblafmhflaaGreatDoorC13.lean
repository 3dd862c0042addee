/- addPreds. -/
import Derived.Test.YtdmicblafmhflaaGreatDoorC07
import Derived.Test.YtdmicblafmhflaaGreatDoorC12
import Derived.Sort.Walk0
import Derived.Test.YtdmicblafmhflaaGreatDoorC11
import Derived.Laws.Cover1
set_option linter.unusedSimpArgs false
set_option linter.unusedVariables false
set_option maxHeartbeats 2000000
set_option maxRecDepth 100000
namespace Go.Proofs.YtdmicblafmhflaaGreatDoor
section
open Go.RowKit
theorem bJ{w w':World}{b:Nat}{e e':TypeId}{size:Nat}{v:Value}{n:Nat}{xs:List Value}(h:w.ownsRow b e size v n xs)(ho:Lib.OthersKept e' none w w')(cA:e≠e'):w'.ownsRow b e size v n xs:=by
 refine⟨h.1, ?_⟩
 rcases h.2 with hn | ⟨g,cap,cur,hv,hg,hh,r⟩
 · exact .inl hn
 · refine .inr ⟨g,cap,cur,hv,hg,ho g _ hh (by simp) (fun c fz e1=> ?_),r⟩
   simp at e1
   exact cA e1.2.1
theorem bT{w w':World}{e:TypeId}(h:Below w.heap.size w w'):Lib.OthersKept e none w w':=fun k o hk _ _=>(h.block k (lt_of_heap hk)).trans hk
theorem ql{w w':World}{l:List MA}{e':TypeId}(h:sV w l)(ho:Lib.OthersKept e' none w w')(cA:310≠e'):sV w' l:=fun x hx=>bJ (h x hx) ho cA
theorem MR.others{w w':World}{r:MR}{e':TypeId}(h:MR.ok w r)(ho:Lib.OthersKept e' none w w')(h1:310≠e')(h2:219≠e'):MR.ok w' r:=
 ⟨bJ h.1 ho h1,bJ h.2.1 ho h2,ql h.2.2 ho h1⟩
theorem zq(l:List ByteArray)(s:ByteArray):strCells (l++[s])=strCells l++[.string s]:=by simp[strCells]
theorem Tryz.o5:(Tryz.prog.info? 9).map (fun i=>(i.zero,i.size,i.bytes))=some (some (.string ByteArray.empty),1,16):=by kernel_rfl
theorem Eb{B:Nat}{w w1 w2:World}{v:Value}{n:Nat}{xs:List Value}{o:Obj}(hB:B≤w1.heap.size)(al:w1.ownsRow B 9 1 v n xs)(aU:Below B w w1)(ho:Lib.OthersKept 9 none w w1)(bG:(w1.alloc o).grownBy w2 v.ownBlock):
 Below B w w2∧Lib.OthersKept 9 none w w2:=
 ⟨(aU.alloc hB o).grown bG (by simp;omega) (fun k hk=>(al.lt k hk).1),(ho.alloc o).grown bG (bj (al.alloc o))⟩
def Pb(B:Nat)(w wr:World)(v:Value)(ps:List ByteArray)(k:Nat)(L:List Ax.Atom)(n:Nat)(R:List ByteArray):Prop:=
 wr.ownsRow B 9 1 v ps.length (strCells ps)∧Below B w wr∧B≤wr.heap.size∧Lib.OthersKept 9 none w wr∧ps.length≤n+k∧Ax.da ps (L.drop k)=R
theorem gN(B:Nat)(w:World)(pd:Option Addr)(pc:Nat)(ps:List ByteArray)(a:Ax.Atom)(ad:Option Addr)(c:Nat)(bd:Option Addr)(d:Nat)(l:List MA)(h:MR.ok w ⟨(a,.slice ad a.ag.length c),.slice bd l.length d,l⟩)(hl:l.length≤1000)
 (hB:B≤w.heap.size)(ux:w.ownsRow B 9 1 (.slice pd ps.length pc) ps.length (strCells ps))(kY:ps.length≤1000):
 Calls Tryz.prog 180 #[.slice pd ps.length pc,.agg #[.int .i64 a.at_,.string a.pred,.slice ad a.ag.length c,.slice bd l.length d]] w fun e w'=>∃pd' pc' V1,e=.returned (.slice pd' (List.length V1) pc')∧Hid (V1=Ax.da ps (a::l.map Prod.fst))∧w'.ownsRow B 9 1 (.slice pd' V1.length pc') V1.length (strCells V1)∧Below B w w'∧Lib.OthersKept 9 none w w'∧V1.length≤ps.length+l.length+1:=by
 generalize hR:Ax.da ps (a::l.map Prod.fst)=R
 have HR:Hid (Ax.da ps (a::l.map Prod.fst)=R):=hR
 clear hR
 go_enter Tryz.func180,Tryz.ntmps180
 go_wp2_with (go_at_call 112;refine(jg _ _ _ _ _ _ _ (MR.below h ((Below.refl _ _).alloc (Nat.le_refl _) _)) hl).mono ?_;rintro e w1 ⟨QB,c',rfl,pE,jz,a8⟩)
 have bL:Below w.heap.size w w1:=((Below.refl _ _).alloc (Nat.le_refl _) _).trans (a8.mono (by simp))
 have kV:=bL.size
 clear a8 h
 generalize hL:(a,Value.slice ad a.ag.length c)::l=L at pE jz
 have SO:L.length=l.length+1:=by rw[←hL];rfl
 have Qt:L.map Prod.fst=a::l.map Prod.fst:=by rw[←hL];rfl
 rw[←Qt]at HR
 clear hL Qt
 have hLa:L.length≤l.length+1:=by omega
 have hLb:l.length+1≤L.length:=by omega
 clear SO
 go_loopw [0,10] (fun v i wr=>∃(k:Nat) (qs:List ByteArray),k≤L.length∧i=.int .i64 k∧Pb B w wr v qs k (L.map Prod.fst) ps.length R∧Lib.OthersKept 9 none w1 wr) (fun _ i _=>L.length-(intOf i).toNat)
 case atStart=>exact⟨0,ps,Nat.zero_le _,rfl,⟨ae ux bL,bL.mono hB,by omega,bT bL,by omega,HR.out⟩,Lib.OthersKept.refl _ _ _⟩
 case round=>
  obtain⟨k,qs,hk,rfl,⟨al,aU,YC,tG,P2,hr⟩,PK⟩:=hrel
  have Wc:Hid (Ax.da qs ((L.map Prod.fst).drop k)=R):=hr
  clear hr HR
  obtain⟨qd,qc,YA⟩:=ah al
  subst YA
  by_cases aE:k<L.length
  · have bQ:=bJ pE PK (by decide)
    obtain⟨g,rfl,hg,hc,bH⟩:=aD bQ (by omega)
    have fG:=bH _ _ (bK L k aE).1
    have fC:=bH _ _ (bK L k aE).2.1
    have gW:=bH _ _ (bK L k aE).2.2
    have yB:MA.ok wr L[k]:=ql jz PK (by decide) _ (List.getElem_mem aE)
    obtain⟨xd,xc,tU⟩:=ah yB
    rw[tU]at gW
    have fl:(L.map Prod.fst).drop k=(L[k]).1::(L.map Prod.fst).drop (k+1):=by
     rw[List.drop_eq_getElem_cons (by simpa using aE)];simp
    rw[fl]at Wc
    generalize (L[k]).1=x at fG fC gW Wc
    clear tU bH bQ fl yB pE
    cases hv:Ax.has qs x.pred
    case true=>
     have HN:Hid (Ax.da qs ((L.map Prod.fst).drop (k+1))=R):=by
      have:=Wc.out
      simp only[Ax.da,hv,if_true]at this
      exact this
     go_wp2_with (go_at_call 225;refine(nN _ _ _ _ _ _ (al.alloc _)).mono ?_;rintro e w2 ⟨rfl,rfl⟩)
     go_roundw
     case rel=>
      refine⟨k+1,qs,by omega,by go_num,⟨al.alloc _,aU.alloc YC _,by simp;omega,tG.alloc _,by omega,HN.out⟩,PK.alloc _⟩
     case measure=>simp[intOf];omega
    case false=>
     have HN:Hid (Ax.da (qs++[x.pred]) ((L.map Prod.fst).drop (k+1))=R):=by
      have:=Wc.out
      simp only[Ax.da,hv,Bool.false_eq_true,if_false]at this
      exact this
     go_wp2_with (first | (go_at_call 225;refine(nN _ _ _ _ _ _ (al.alloc _)).mono ?_;rintro e w2 ⟨rfl,rfl⟩) | (at_builtin;go_must (obtain⟨i0,hi,ew,dZ,dX⟩:=info_parts Tryz.o5;refine wpList_append_own _ rfl (.tmp 19) (.tmp 22) 46 rfl B 9 i0 _ 1 16 Tryz.underlying46 hi ew dZ dX rfl (by decide) _ _ _ rfl ((al.alloc _).alloc _) ⟨wr.heap.size+1,0,none⟩ 1 1 [.string x.pred] rfl rfl (eL _ _ _ _) (by simp[Value.oneCell']) (by unfold maxLen;omega) (by omega) (by simp;omega) ?_;intro v2 w2 aR bG _;clear hi ew dZ dX;obtain⟨fN,mz⟩:=Eb (by simp;omega) (al.alloc _) (aU.alloc YC _) (tG.alloc _) bG;have Zg:=((PK.alloc _).alloc _).grown bG (bj ((al.alloc _).alloc _)))))
     go_roundw
     case rel=>
      refine⟨k+1,qs++[x.pred],by omega,by go_num,⟨?_,fN, ?_,mz,by simp;omega,HN.out⟩,Zg⟩
      · rw[zq];simpa using aR
      · have:=bG.size;simp at this;omega
     case measure=>simp[intOf];omega
  · have A1:Hid (Lib.OthersKept 9 none w wr):=tG
    clear tG PK jz pE
    go_wp2_with fail
    go_ret
    rw[List.drop_eq_nil_of_le (by simp;omega)]at Wc
    exact⟨qd,qc,qs,rfl,Wc.out,al,aU,A1,by omega⟩
end
/- Package record: what came and went, as bytes. -/
section
open Go.RowKit
structure FI where
 pred:ByteArray
 args:List ByteArray
 av:Value
def dC(l:List FI):List Value:=l.flatMap fun f=>[.string f.pred,f.av]
def FI.ok(w:World)(f:FI):Prop:=w.ownsRow 0 9 1 f.av f.args.length (strCells f.args)
structure bM(w:World)(fd:Option Addr)(fc:Nat)(l:List FI):Prop where
 row:w.ownsRow 0 48 2 (.slice fd l.length fc) l.length (dC l)
 each:∀f,f∈l→f.ok w
theorem bM.below{w w':World}{fd:Option Addr}{fc:Nat}{l:List FI}(h:bM w fd fc l)(hb:Below w.heap.size w w'):bM w' fd fc l:=⟨ae h.row hb,fun f hf=>ae (h.each f hf) hb⟩
theorem bM.others{w w':World}{fd:Option Addr}{fc:Nat}{l:List FI}{e:TypeId}(h:bM w fd fc l)(ho:Lib.OthersKept e none w w')(h1:48≠e)(h2:9≠e):bM w' fd fc l:=⟨bJ h.row ho h1,fun f hf=>bJ (h.each f hf) ho h2⟩
theorem eI(l:List FI)(k:Nat)(h:k<l.length):(dC l)[k*2]?=some (.string (l[k]).pred)∧(dC l)[k*2+1]?=some (l[k]).av:=by
 induction l generalizing k with
 | nil=>simp at h
 | cons a l ih=>
  cases k with
  | zero=>simp[dC]
  | succ k=>
   have:=ih k (by simpa using h)
   have e:dC (a::l)=.string a.pred::a.av::dC l:=rfl
   rw[e,show(k+1)*2+1=(k*2+1)+1+1 by omega,show(k+1)*2=k*2+1+1 by omega]
   simpa using this
namespace Rc
def fE(f:FI):List UInt8:=aC f.pred++f.args.flatMap aC
def kp(l:List FI):List UInt8:=aQ l.length++l.flatMap fE
def eY(cm gone:List FI):List UInt8:=kp cm++kp gone
theorem sf(n:Nat)(h:n≤1000000000000):(aQ n).length≤10:=by
 have e:(128:Nat)^10=1180591620717411303424:=by decide
 exact mD 10 n (by rw[e];omega) (by decide)
theorem iO(t:ByteArray)(h:t.size≤1000):(aC t).length≤1010:=by
 have:=sf t.size (by omega)
 unfold aC
 simp
 omega
theorem iw{α:Type}(f:α→List UInt8)(N:Nat):∀l:List α,(∀x,x∈l→(f x).length≤N)→(l.flatMap f).length≤N*l.length
 | [],_=>by simp
 | a::l,h=>by
  have h1:=iw f N l (fun x hx=>h x (by simp[hx]))
  have h2:=h a (by simp)
  rw[List.flatMap_cons,List.length_append,List.length_cons,Nat.mul_add]
  omega
end Rc
structure nF(l:List FI):Prop where
 CZ:l.length≤1000
 kM:∀f,f∈l→f.pred.size≤1000
 args:∀f,f∈l→f.args.length≤1000
 names:∀f,f∈l→∀a,a∈f.args→a.size≤1000
theorem nF.fact{l:List FI}(h:nF l){f:FI}(hf:f∈l):(Rc.fE f).length≤1011010:=by
 have h1:=Rc.iO f.pred (h.kM f hf)
 have h2:=Rc.iw Rc.aC 1010 f.args (fun a ha=>Rc.iO a (h.names f hf a ha))
 have h3:=h.args f hf
 unfold Rc.fE
 rw[List.length_append]
 omega
theorem nF.facts{l:List FI}(h:nF l)(k:Nat):((l.take k).flatMap Rc.fE).length≤1011010000:=by
 have h1:=Rc.iw Rc.fE 1011010 (l.take k) (fun f hf=>h.fact (List.mem_of_mem_take hf))
 have h2:=h.CZ
 have h3:(l.take k).length≤l.length:=by rw[List.length_take];omega
 have:1011010*(l.take k).length≤1011010*1000:=Nat.mul_le_mul_left _ (by omega)
 omega
structure qJ(B:Nat)(w w':World)(v:Value)(n:Nat)(xs:List Value):Prop where
 own:w'.ownsRow B 5 1 v n xs
 aZ:Below B w w'
 Eu:Lib.OthersKept 5 none w w'
theorem qJ.len{B:Nat}{w w':World}{v:Value}{n:Nat}{xs:List Value}(h:qJ B w w' v n xs):xs.length=n:=by have:=h.own.1;omega
theorem aP{e:TypeId}{w w1 w2:World}(h:Lib.OthersKept e none w w1)(k:Lib.OthersKept e none w1 w2):Lib.OthersKept e none w w2:=fun i o hi hn cA=>k i o (h i o hi hn cA) hn cA
theorem nL(B:Nat)(w:World)(v:Value)(n:Nat)(xs:List Value)(fd:Option Addr)(fc:Nat)(l:List FI)(hf:bM w fd fc l)(ze:nF l)(al:w.ownsRow B 5 1 v n xs)(hB:B≤w.heap.size)(hn:n≤10000000000):
 Calls Tryz.prog 129 #[v,.slice fd l.length fc] w fun e w'=>∃v' n',e=.returned v'∧qJ B w w' v' n' (xs++Rc.bA (Rc.kp l)):=by
 have nR:xs.length=n:=by have:=al.1;omega
 have Rz:=dH B w v n xs l.length al hB (by omega) (by have:=ze.CZ;omega)
 obtain⟨vd,vc,Mu⟩:=ah al
 subst Mu
 have Ph:Hid (nF l):=ze
 have HF:Hid (bM w fd fc l):=hf
 have hle:=bh hf.row
 have aiz:=ze.CZ
 have HNL:Hid ((Rc.aQ l.length).length≤10):=Rc.sf l.length (by omega)
 clear al hf ze
 go_enter Tryz.func129,Tryz.ntmps129
 go_wp2_with (go_at_call 78;refine Rz.mono ?_;rintro e w1 ⟨v1,n1,rfl,bq,a8,PK⟩)
 have aco:Hid (qJ B w w1 v1 n1 (xs++Rc.bA (Rc.aQ l.length++(l.take 0).flatMap Rc.fE))):=⟨by simpa using bq,a8,PK⟩
 clear bq a8 PK Rz
 go_loopw [0,15] (fun a i wr=>∃(k m:Nat),k≤l.length∧i=.int .i64 k∧qJ B w wr a m (xs++Rc.bA (Rc.aQ l.length++(l.take k).flatMap Rc.fE))) (fun _ i _=>l.length-(intOf i).toNat)
 case atStart=>exact⟨0,n1,Nat.zero_le _,rfl,aco.out⟩
 case round=>
  obtain⟨k,m,hk,rfl,mw⟩:=hrel
  obtain⟨ad,ac,LB⟩:=ah mw.own
  subst LB
  have pg:Hid (qJ B w wr (.slice ad m ac) m (xs++Rc.bA (Rc.aQ l.length++(l.take k).flatMap Rc.fE))):=mw
  have Rg:m≤12000000000:=by
   have h1:=mw.len
   have h2:=Ph.out.facts k
   have h3:=HNL.out
   rw[List.length_append,Rc.bB,List.length_append]at h1
   omega
  clear mw
  obtain⟨wA,rfl⟩:∃x,x=wr:=⟨_,rfl⟩
  by_cases aE:k<l.length
  · have O7:bM wA fd fc l:=HF.out.others pg.out.Eu (by decide) (by decide)
    obtain⟨g,rfl,hg,hc,bH⟩:=aD O7.row (by omega)
    have c0:=bH _ _ (eI l k aE).1
    have c1:=bH _ _ (eI l k aE).2
    have PA:=O7.each _ (List.getElem_mem aE)
    have Um:Hid ((l[k]).pred.size≤1000∧(l[k]).args.length≤1000∧∀a,a∈(l[k]).args→a.size≤1000):=⟨Ph.out.kM _ (List.getElem_mem aE),Ph.out.args _ (List.getElem_mem aE),Ph.out.names _ (List.getElem_mem aE)⟩
    have fR:Hid ((l.take (k+1)).flatMap Rc.fE=(l.take k).flatMap Rc.fE++Rc.fE l[k]):=by
     have e0:l.take (k+1)=l.take k++[l[k]]:=by rw[List.take_add_one,List.getElem?_eq_getElem aE];rfl
     have e1:(l.take (k+1)).flatMap Rc.fE=(l.take k).flatMap Rc.fE++Rc.fE l[k]:=by rw[e0,List.flatMap_append];simp
     exact e1
    generalize l[k]=f at c0 c1 PA Um fR
    obtain⟨pd,args,av⟩:=f
    obtain⟨xd,xc,zv⟩:=ah PA
    simp only at zv c0 c1
    subst zv
    have HFO:Hid (wA.ownsRow 0 9 1 (.slice xd args.length xc) args.length (strCells args)):=PA
    have re:Hid (Calls Tryz.prog 77 #[.slice ad m ac,.string pd] (wA.alloc (.cells #[.string pd,.slice xd args.length xc] 48)) fun e w2=>∃v2 n2,e=.returned v2∧Hid (qJ B w w2 v2 n2 (xs++Rc.bA (Rc.aQ l.length++(l.take k).flatMap Rc.fE)++Rc.bA (Rc.aC pd++(args.take 0).flatMap Rc.aC)))∧Hid (Lib.OthersKept 5 none (wA.alloc (.cells #[.string pd,.slice xd args.length xc] 48)) w2)∧w2.cell? ⟨wA.heap.size,1,none⟩=some (.slice xd args.length xc)∧wA.heap.size<w2.heap.size):=by
     refine(kz B _ (.slice ad m ac) m _ pd (pg.out.own.alloc _) (by have:=pg.out.aZ.size;simp;omega) (by omega) (by have:=Um.out.1;simp only at this;omega)).mono ?_
     rintro e w2 ⟨v2,n2,rfl,q1,q2,q3⟩
     refine⟨v2,n2,rfl,⟨by simpa using q1,(pg.out.aZ.alloc (by have:=pg.out.aZ.size;omega) _).trans q2,aP (pg.out.Eu.alloc _) q3⟩,q3, ?_, ?_⟩
     · have hb:=q3 wA.heap.size _ (heap_alloc_new wA _) (by simp) (fun c fz e=>by simp at e)
       rw[cell_of_row _ _ _ _ _ _ hb]
       rfl
     · exact lt_of_heap (q3 wA.heap.size _ (heap_alloc_new wA _) (by simp) (fun c fz e=>by simp at e))
    clear bH O7 PA
    go_wp2_with (go_at_call 77;refine re.out.mono ?_;rintro e w2 ⟨v2,n2,rfl,Zk,HO2,uI,tH⟩)
    generalize jm:xs++Rc.bA (Rc.aQ l.length++(l.take k).flatMap Rc.fE)=base at Zk
    have Xt:Hid (xs++Rc.bA (Rc.aQ l.length++(l.take k).flatMap Rc.fE)=base):=jm
    have fm:base.length≤12000000000:=by
     rw[←jm,pg.out.len]
     exact Rg
    clear jm re c0 c1
    have RP:Hid ((wA.alloc (.cells #[.string pd,.slice xd args.length xc] 48)).ownsRow 0 9 1 (.slice xd args.length xc) args.length (strCells args)):=HFO.out.alloc _
    generalize wA.alloc (.cells #[.string pd,.slice xd args.length xc] 48)=wB at HO2 RP
    have Sz:Hid (∀j,(Rc.aC pd++(args.take j).flatMap Rc.aC).length≤1011010):=by
     intro j
     have h1:=Rc.iO pd Um.out.1
     have h2:=Rc.iw Rc.aC 1010 (args.take j) (fun a ha=>Rc.iO a (Um.out.2.2 a (List.mem_of_mem_take ha)))
     have h3:(args.take j).length≤1000:=by have h9:=Um.out.2.1;rw[List.length_take];omega
     rw[List.length_append]
     omega
    have PH:args.length≤1000:=Um.out.2.1
    go_loopw [0,26] (fun a i wr=>∃(j m2:Nat),j≤args.length∧i=.int .i64 j∧qJ B w wr a m2 (base++Rc.bA (Rc.aC pd++(args.take j).flatMap Rc.aC))∧Lib.OthersKept 5 none wB wr) (fun _ i _=>args.length-(intOf i).toNat)
    case atStart=>exact⟨0,n2,Nat.zero_le _,rfl,Zk.out,HO2.out⟩
    case round=>
     obtain⟨j,m2,hj,rfl,Q3,XA⟩:=hrel
     obtain⟨bd,bc,bL⟩:=ah Q3.own
     subst bL
     have KB:Hid (qJ B w wr (.slice bd m2 bc) m2 (base++Rc.bA (Rc.aC pd++(args.take j).flatMap Rc.aC))):=Q3
     have HO3:Hid (Lib.OthersKept 5 none wB wr):=XA
     by_cases qS:j<args.length
     · have HLJ:Hid (j<args.length):=qS
       have bQ:=bJ RP.out HO3.out (by decide)
       obtain⟨g3,rfl,nP,vm,mc⟩:=aD bQ (by omega)
       have ca:wr.cell? ⟨g3,j,none⟩=some (.string args[j]):=mc j _ (by rw[strCells,List.getElem?_map,List.getElem?_eq_getElem qS];rfl)
       have YB:m2≤20000000000:=by
        have h1:=KB.out.len
        have h2:=Sz.out j
        rw[List.length_append,Rc.bB]at h1
        omega
       have O5:Hid ((args.take (j+1)).flatMap Rc.aC=(args.take j).flatMap Rc.aC++Rc.aC args[j]):=by
        have e0:args.take (j+1)=args.take j++[args[j]]:=by rw[List.take_add_one,List.getElem?_eq_getElem qS];rfl
        have e1:(args.take (j+1)).flatMap Rc.aC=(args.take j).flatMap Rc.aC++Rc.aC args[j]:=by rw[e0,List.flatMap_append];simp
        exact e1
       have cE:(args[j]).size≤1000:=Um.out.2.2 _ (List.getElem_mem qS)
       generalize args[j]=q at ca O5 cE
       have abE:Hid (Calls Tryz.prog 77 #[.slice bd m2 bc,.string q] wr fun e w5=>∃v5 n5,e=.returned v5∧Hid (qJ B w w5 v5 n5 (base++Rc.bA (Rc.aC pd++(args.take (j+1)).flatMap Rc.aC)))∧Hid (Lib.OthersKept 5 none wB w5)):=by
        refine(kz B wr (.slice bd m2 bc) m2 _ q KB.out.own (Nat.le_trans hB KB.out.aZ.size) (by omega) (by omega)).mono ?_
        rintro e w5 ⟨v5,n5,rfl,q1,q2,q3⟩
        refine⟨v5,n5,rfl,⟨?_,KB.out.aZ.trans q2,aP KB.out.Eu q3⟩,aP HO3.out q3⟩
        rw[O5.out,←List.append_assoc,Rc.eK,←List.append_assoc]
        exact q1
       clear Q3 XA bQ mc
       go_wp2_with (go_at_call 77;refine abE.out.mono ?_;rintro e w5 ⟨v5,n5,rfl,acM,HO5⟩)
       go_roundw
       case rel=>exact⟨j+1,n5,HLJ.out,by go_num,acM.out,HO5.out⟩
       case measure=>
        have h9:=HLJ.out
        simp[intOf]
        omega
     · have HE:Hid (qJ B w wr (.slice bd m2 bc) m2 (xs++Rc.bA (Rc.aQ l.length++(l.take (k+1)).flatMap Rc.fE))):=by
        have h1:=KB.out
        have e0:args.take j=args:=List.take_of_length_le (by omega)
        rw[e0,←Xt.out]at h1
        rw[fR.out,←List.append_assoc,Rc.eK,←List.append_assoc]
        exact h1
       clear Q3 XA
       go_wp2_with fail
       go_roundw
       case rel=>exact⟨k+1,m2,by omega,by go_num,HE.out⟩
       case measure=>simp[intOf];omega
  · have HE:Hid (qJ B w wA (.slice ad m ac) m (xs++Rc.bA (Rc.kp l))):=by
     have h1:=pg.out
     have e0:l.take k=l:=List.take_of_length_le (by omega)
     rw[e0]at h1
     exact h1
    go_wp2_with fail
    go_ret
    exact⟨_,m,rfl,HE.out⟩
end
/- Tables of facts: rows in order, where one is found, where one is put. No program here. -/
namespace Tb
def slt(a b:ByteArray):Bool:=Op.bytesLess a.toList b.toList
theorem toList_inj{a b:ByteArray}(h:a.toList=b.toList):a=b:=by
 rw[ByteArray.toList_eq,ByteArray.toList_eq]at h
 rcases a with⟨⟨a⟩⟩
 rcases b with⟨⟨b⟩⟩
 simp at h
 rw[h]
theorem mT(a b:ByteArray):slt a b=true↔a.toList<b.toList:=by
 unfold slt
 rw[bytesLess_eq]
 simp
theorem na(a:ByteArray):slt a a=false:=by
 rw[Bool.eq_false_iff]
 intro h
 exact List.lt_irrefl _ ((mT a a).1 h)
theorem pw{a b c:ByteArray}(h:slt a b=true)(k:slt b c=true):slt a c=true:=
 (mT a c).2 (List.lt_trans ((mT a b).1 h) ((mT b c).1 k))
theorem vG{a b:ByteArray}(h:slt a b=false)(k:slt b a=false):a=b:=by
 refine toList_inj ?_
 have h':¬a.toList<b.toList:=fun e=>by rw[(mT a b).2 e]at h;cases h
 have k':¬b.toList<a.toList:=fun e=>by rw[(mT b a).2 e]at k;cases k
 exact List.le_antisymm (List.not_lt.1 k') (List.not_lt.1 h')
theorem yi{a b:ByteArray}(h:slt a b=true):slt b a=false:=by
 rw[Bool.eq_false_iff]
 intro k
 have:=pw h k
 rw[na]at this
 cases this
def ia(a b:ByteArray):Int:=if slt a b=true then-1 else if slt b a=true then 1 else 0
theorem mi{a b:ByteArray}:ia a b=0↔a=b:=by
 unfold ia
 constructor
 · intro h
   cases h1:slt a b with
   | true=>rw[h1]at h;simp at h
   | false=>
    cases h2:slt b a with
    | true=>rw[h1,h2]at h;simp at h
    | false=>exact vG h1 h2
 · rintro rfl
   simp[na]
theorem oL{a b:ByteArray}:ia a b<0↔slt a b=true:=by
 unfold ia
 cases h1:slt a b<;>cases h2:slt b a<;>simp
theorem Nc{a b:ByteArray}:0<ia a b↔slt b a=true:=by
 unfold ia
 cases h1:slt a b with
 | true=>have:=yi h1;simp[this]
 | false=>cases h2:slt b a<;>simp
def c8:List ByteArray→List ByteArray→Int
 | [],[]=>0
 | [],_::_=> -1
 | _::_,[]=>1
 | a::p,b::q=>if ia a b≠0 then ia a b else c8 p q
theorem sQ:∀{a b:List ByteArray},c8 a b=0↔a=b
 | [],[]=>by simp[c8]
 | [],_::_=>by simp[c8]
 | _::_,[]=>by simp[c8]
 | a::p,b::q=>by
  unfold c8
  by_cases h:ia a b=0
  · rw[if_neg (by simpa using h),sQ,mi.1 h]
    simp
  · rw[if_pos h]
    constructor
    · intro e;exact absurd e h
    · intro e
      simp only[List.cons.injEq]at e
      exact mi.2 e.1
theorem kP:∀{a b c:List ByteArray},c8 a b<0→c8 b c<0→c8 a c<0
 | [],[],c,h,_=>by simp[c8]at h
 | _::_,[],c,h,_=>by simp[c8]at h
 | [],_::_,[],_,k=>by simp[c8]at k
 | [],_::_,_::_,_,_=>by simp[c8]
 | _::_,_::_,[],_,k=>by simp[c8]at k
 | a::p,b::q,c::o,h,k=>by
  unfold c8 at h k ⊢
  by_cases h1:ia a b=0
  · rw[if_neg (by simpa using h1)]at h
    have e:=mi.1 h1
    subst e
    by_cases h2:ia a c=0
    · rw[if_neg (by simpa using h2)]at k ⊢
      exact kP h k
    · rw[if_pos h2]at k ⊢
      exact k
  · rw[if_pos h1]at h
    by_cases h2:ia b c=0
    · have e:=mi.1 h2
      subst e
      rw[if_pos h1]
      exact h
    · rw[if_pos h2]at k
      have h3:=pw (oL.1 h) (oL.1 k)
      have h4:=oL.2 h3
      rw[if_pos (by omega)]
      exact h4
theorem oo(a:List ByteArray):c8 a a=0:=sQ.2 rfl
theorem AO:∀{a b:List ByteArray},¬c8 a b<0→¬a=b→c8 b a<0
 | [],[],_,k=>absurd rfl k
 | [],_::_,h,_=>by simp[c8]at h
 | _::_,[],_,_=>by simp[c8]
 | a::p,b::q,h,k=>by
  unfold c8 at h ⊢
  by_cases h1:ia a b=0
  · have e:=mi.1 h1
    subst e
    rw[if_neg (by simpa using h1)]at h
    rw[if_neg (by simpa using h1)]
    exact AO h (fun e=>k (by rw[e]))
  · rw[if_pos h1]at h
    have h2:0<ia a b:=by omega
    have h3:ia b a<0:=oL.2 (Nc.1 h2)
    rw[if_pos (by omega)]
    exact h3
abbrev Rw:=List ByteArray
def Ord(L:List Rw):Prop:=L.Pairwise fun a b=>c8 a b<0
def pos(L:List Rw)(r:Rw):Nat:=L.countP fun x=>decide (c8 x r<0)
theorem qg(L:List Rw)(r:Rw):pos L r≤L.length:=List.countP_le_length
theorem Ord.nodup{L:List Rw}(h:Ord L):L.Nodup:=by
 refine List.Pairwise.imp ?_ h
 intro a b pD e
 subst e
 rw[oo]at pD
 omega
theorem qT:∀{L:List Rw} (_:Ord L) (r:Rw),(∀x,x∈L.take (pos L r)→c8 x r<0)∧(∀x,x∈L.drop (pos L r)→¬c8 x r<0)
 | [],_,r=>by simp[pos]
 | a::L,h,r=>by
  obtain⟨h1,h2⟩:=List.pairwise_cons.1 h
  by_cases ha:c8 a r<0
  · have e:pos (a::L) r=pos L r+1:=by simp[pos,List.countP_cons,ha]
    rw[e]
    obtain⟨i1,i2⟩:=qT h2 r
    refine⟨?_, ?_⟩
    · intro x hx
      rw[List.take_succ_cons]at hx
      rcases List.mem_cons.1 hx with rfl | hx
      · exact ha
      · exact i1 x hx
    · intro x hx
      rw[List.drop_succ_cons]at hx
      exact i2 x hx
  · have qB:∀x,x∈L→¬c8 x r<0:=by
     intro x hx k
     exact ha (kP (h1 x hx) k)
    have e0:pos L r=0:=by
     unfold pos
     rw[List.countP_eq_zero]
     intro x hx
     simpa using qB x hx
    have e:pos (a::L) r=0:=by
     have:pos (a::L) r=pos L r:=by simp[pos,List.countP_cons,ha]
     rw[this,e0]
    rw[e]
    refine⟨by simp, ?_⟩
    intro x hx
    rw[List.drop_zero]at hx
    rcases List.mem_cons.1 hx with rfl | hx
    · exact ha
    · exact qB x hx
theorem Eo{L:List Rw}(h:Ord L){a b:Nat}(pD:a≤b)(hb:b<L.length){r:Rw}(k:c8 L[b] r<0):c8 (L[a]'(by omega)) r<0:=by
 rcases Nat.lt_or_ge a b with h1 | h1
 · have:=(List.pairwise_iff_getElem.1 h) a b (by omega) hb h1
   exact kP this k
 · have:a=b:=by omega
   subst this
   exact k
theorem fK{L:List Rw}(h:Ord L)(r:Rw):L[pos L r]?=some r↔r∈L:=by
 constructor
 · intro e;exact List.mem_of_getElem? e
 · intro hr
   obtain⟨h1,h2⟩:=qT h r
   have hd:r∈L.drop (pos L r):=by
    rw[←List.take_append_drop (pos L r) L]at hr
    rcases List.mem_append.1 hr with k | k
    · have:=h1 r k
      rw[oo]at this
      omega
    · exact k
   cases hc:L.drop (pos L r)with
   | nil=>rw[hc]at hd;simp at hd
   | cons x t=>
    have hx:L[pos L r]?=some x:=by
     have:=congrArg (fun l=>l[0]?) hc
     simpa using this
    rw[hx]
    congr 1
    have hp:Ord (x::t):=by rw[←hc];exact List.Pairwise.sublist (List.drop_sublist _ _) h
    rw[hc]at hd
    rcases List.mem_cons.1 hd with e | e
    · exact e.symm
    · have k1:=(List.pairwise_cons.1 hp).1 r e
      have k2:=h2 x (by rw[hc];simp)
      exact absurd k1 k2
def ins(L:List Rw)(r:Rw):List Rw:=L.take (pos L r)++r::L.drop (pos L r)
def mg{F:Type}[DecidableEq F](L:List F)(f:F):Bool:=decide (f∈L)
theorem dY{F:Type}[DecidableEq F]{L:List F}{f:F}:mg L f=true↔f∈L:=by simp[mg]
def put(L:List Rw)(r:Rw):List Rw:=if mg L r=true then L else ins L r
theorem Qe{L:List Rw}{r x:Rw}:x∈ins L r↔x=r∨x∈L:=by
 unfold ins
 have e:x∈L↔x∈L.take (pos L r)∨x∈L.drop (pos L r):=by
  rw[←List.mem_append,List.take_append_drop]
 rw[e]
 simp only[List.mem_append,List.mem_cons]
 constructor
 · rintro(h | h | h)
   · exact .inr (.inl h)
   · exact .inl h
   · exact .inr (.inr h)
 · rintro(h | h | h)
   · exact .inr (.inl h)
   · exact .inl h
   · exact .inr (.inr h)
theorem vS{L:List Rw}{r x:Rw}:x∈put L r↔x=r∨x∈L:=by
 unfold put
 split
 · rename_i h
   rw[dY]at h
   constructor
   · exact .inr
   · rintro(rfl | k)
     · exact h
     · exact k
 · exact Qe
theorem Qx{L:List Rw}(h:Ord L){r:Rw}(hr:¬r∈L):Ord (ins L r):=by
 obtain⟨h1,h2⟩:=qT h r
 unfold Ord ins
 rw[List.pairwise_append]
 have hd:∀x,x∈L.drop (pos L r)→c8 r x<0:=by
  intro x hx
  refine AO (h2 x hx) ?_
  rintro rfl
  exact hr (List.mem_of_mem_drop hx)
 refine⟨List.Pairwise.sublist (List.take_sublist _ _) h, ?_, ?_⟩
 · rw[List.pairwise_cons]
   exact⟨hd,List.Pairwise.sublist (List.drop_sublist _ _) h⟩
 · intro a ha b hb
   rcases List.mem_cons.1 hb with rfl | hb
   · exact h1 a ha
   · exact kP (h1 a ha) (hd b hb)
theorem RU{L:List Rw}(h:Ord L)(r:Rw):Ord (put L r):=by
 unfold put
 split
 · exact h
 · rename_i hr
   rw[dY]at hr
   exact Qx h hr
def del(L:List Rw)(r:Rw):List Rw:=L.take (pos L r)++L.drop (pos L r+1)
def leave(L:List Rw)(r:Rw):List Rw:=if mg L r=true then del L r else L
theorem JC{L:List Rw}(h:Ord L)(r:Rw):Ord (leave L r):=by
 unfold leave
 split
 · refine List.Pairwise.sublist ?_ h
   unfold del
   conv=>rhs;rw[←List.take_append_drop (pos L r) L]
   refine List.Sublist.append (List.Sublist.refl _) ?_
   rw[←List.drop_drop]
   exact List.drop_sublist _ _
 · exact h
theorem Lk{L:List Rw}(h:Ord L){r x:Rw}:x∈leave L r↔x∈L∧x≠r:=by
 unfold leave
 split
 · rename_i hr
   rw[dY]at hr
   have hf:=(fK h r).2 hr
   have aE:pos L r<L.length:=(List.getElem?_eq_some_iff.1 hf).1
   have hg:L[pos L r]=r:=(List.getElem?_eq_some_iff.1 hf).2
   have e:L=L.take (pos L r)++r::L.drop (pos L r+1):=by
    conv=>lhs;rw[←List.take_append_drop (pos L r) L]
    rw[List.drop_eq_getElem_cons aE,hg]
   have hn:=h.nodup
   unfold del
   rw[e]at hn
   rw[List.nodup_append]at hn
   obtain⟨n1,n2,n3⟩:=hn
   have n4:=(List.nodup_cons.1 n2).1
   constructor
   · intro hx
     rcases List.mem_append.1 hx with hx | hx
     · exact⟨List.mem_of_mem_take hx,fun e2=>n3 x hx r (by simp) e2⟩
     · exact⟨List.mem_of_mem_drop hx,fun e2=>n4 (e2▸hx)⟩
   · rintro⟨hx,cA⟩
     rw[e]at hx
     rcases List.mem_append.1 hx with hx | hx
     · exact List.mem_append_left _ hx
     · rcases List.mem_cons.1 hx with rfl | hx
       · exact absurd rfl cA
       · exact List.mem_append_right _ hx
 · rename_i hr
   rw[dY]at hr
   constructor
   · intro hx;exact⟨hx,fun e=>hr (e▸hx)⟩
   · exact fun hx=>hx.1
end Tb
/- cmp.Compare, slices.Compare at strings; compareRows. -/
section
open Go.RowKit
theorem s6(w:World)(x:ByteArray):Calls Tryz.prog 256 #[.string x] w fun e w'=>e=.returned (.bool false)∧w'=w:=by
 have hb:(x.toList != x.toList)=false:=by simp
 go_enter Tryz.func256,Tryz.ntmps256
 go_wp2_with fail
 go_ret
 simp
theorem oF(w:World)(x y:ByteArray):Calls Tryz.prog 247 #[.string x,.string y] w fun e w'=>e=.returned (.int .i64 (Tb.ia x y))∧w'=w:=by
 have h1:Op.bytesLess x.toList y.toList=Tb.slt x y:=rfl
 have h2:(!(Tb.slt x y||x.toList==y.toList))=Tb.slt y x:=by
  rw[eC]
  cases a:Tb.slt x y with
  | true=>rw[Tb.yi a];rfl
  | false=>
   cases c:Tb.slt y x with
   | true=>
    have:¬x=y:=by rintro rfl;rw[Tb.na]at c;cases c
    simp[this]
   | false=>simp[Tb.vG a c]
 generalize hR:Tb.ia x y=R
 unfold Tb.ia at hR
 cases a:Tb.slt x y with
 | true=>
  rw[a]at h1 hR
  simp at hR
  clear h2 a
  go_enter Tryz.func247,Tryz.ntmps247
  go_wp2_with (first | (go_at_call 256;refine(s6 _ _).mono ?_;rintro e w' ⟨rfl,rfl⟩))
  go_ret
  exact⟨by rw[←hR];rfl,rfl⟩
 | false=>
  rw[a]at h1 hR h2
  cases c:Tb.slt y x with
  | true=>
   rw[c]at hR h2
   simp at hR
   clear a c
   have h3:(x.toList==y.toList)=false:=by simpa using h2
   clear h2
   go_enter Tryz.func247,Tryz.ntmps247
   go_wp2_with (first | (go_at_call 256;refine(s6 _ _).mono ?_;rintro e w' ⟨rfl,rfl⟩))
   go_ret
   exact⟨by rw[←hR];rfl,rfl⟩
  | false=>
   rw[c]at hR h2
   simp at hR
   clear a c
   have h3:(x.toList==y.toList)=true:=by simpa using h2
   clear h2
   go_enter Tryz.func247,Tryz.ntmps247
   go_wp2_with (first | (go_at_call 256;refine(s6 _ _).mono ?_;rintro e w' ⟨rfl,rfl⟩))
   go_ret
   exact⟨by rw[←hR];rfl,rfl⟩
end
end Go.Proofs.YtdmicblafmhflaaGreatDoor
