/- addPreds. -/
import Derived.Test.YtdmicblafmhflaaGreatDoorC07
import Derived.Test.YtdmicblafmhflaaGreatDoorC12
import Derived.Sort.Walk0
import Derived.Test.YtdmicblafmhflaaGreatDoorC11
import Derived.Laws.Cover1
set_option linter.unusedSimpArgs false
set_option linter.unusedVariables false
set_option maxHeartbeats 2000000
set_option maxRecDepth 100000
namespace Go.Proofs.YtdmicblafmhflaaGreatDoor
section
open Go.RowKit
theorem bD{w w':World}{b:Nat}{e e':TypeId}{size:Nat}{v:Value}{n:Nat}{xs:List Value}(h:w.ownsRow b e size v n xs)(ho:Lib.OthersKept e' none w w')(cL:e≠e'):w'.ownsRow b e size v n xs:=by
 refine⟨h.1, ?_⟩
 rcases h.2 with hn | ⟨g,cap,cur,hv,hg,hh,r⟩
 · exact .inl hn
 · refine .inr ⟨g,cap,cur,hv,hg,ho g _ hh (by simp) (fun c fz e1=> ?_),r⟩
   simp at e1
   exact cL e1.2.1
theorem bR{w w':World}{e:TypeId}(h:Below w.heap.size w w'):Lib.OthersKept e none w w':=fun k o hk _ _=>(h.block k (lt_of_heap hk)).trans hk
theorem qi{w w':World}{l:List MA}{e':TypeId}(h:tA w l)(ho:Lib.OthersKept e' none w w')(cL:310≠e'):tA w' l:=fun x hx=>bD (h x hx) ho cL
theorem MR.others{w w':World}{r:MR}{e':TypeId}(h:MR.ok w r)(ho:Lib.OthersKept e' none w w')(h1:310≠e')(h2:219≠e'):MR.ok w' r:=
 ⟨bD h.1 ho h1,bD h.2.1 ho h2,qi h.2.2 ho h1⟩
theorem zg(l:List ByteArray)(s:ByteArray):strCells (l++[s])=strCells l++[.string s]:=by simp[strCells]
theorem Tryz.vL:(Tryz.prog.info? 9).map (fun i=>(i.zero,i.size,i.bytes))=some (some (.string ByteArray.empty),1,16):=by kernel_rfl
theorem Er{B:Nat}{w w1 w2:World}{v:Value}{n:Nat}{xs:List Value}{o:Obj}(hB:B≤w1.heap.size)(aj:w1.ownsRow B 9 1 v n xs)(aR:Below B w w1)(ho:Lib.OthersKept 9 none w w1)(bx:(w1.alloc o).grownBy w2 v.ownBlock):
 Below B w w2∧Lib.OthersKept 9 none w w2:=
 ⟨(aR.alloc hB o).grown bx (by simp;omega) (fun k hk=>(aj.lt k hk).1),(ho.alloc o).grown bx (cu (aj.alloc o))⟩
def OP(B:Nat)(w wr:World)(v:Value)(ps:List ByteArray)(k:Nat)(L:List Ax.Atom)(n:Nat)(R:List ByteArray):Prop:=
 wr.ownsRow B 9 1 v ps.length (strCells ps)∧Below B w wr∧B≤wr.heap.size∧Lib.OthersKept 9 none w wr∧ps.length≤n+k∧Ax.cE ps (L.drop k)=R
theorem ij(B:Nat)(w:World)(pd:Option Addr)(pc:Nat)(ps:List ByteArray)(a:Ax.Atom)(ad:Option Addr)(c:Nat)(bd:Option Addr)(d:Nat)(l:List MA)(h:MR.ok w ⟨(a,.slice ad a.ag.length c),.slice bd l.length d,l⟩)(hl:l.length≤1000)
 (hB:B≤w.heap.size)(uK:w.ownsRow B 9 1 (.slice pd ps.length pc) ps.length (strCells ps))(lu:ps.length≤1000):
 Calls Tryz.prog 180 #[.slice pd ps.length pc,.agg #[.int .i64 a.at_,.string a.pred,.slice ad a.ag.length c,.slice bd l.length d]] w fun e w'=>∃pd' pc' WJ,e=.returned (.slice pd' (List.length WJ) pc')∧Hid (WJ=Ax.cE ps (a::l.map Prod.fst))∧w'.ownsRow B 9 1 (.slice pd' WJ.length pc') WJ.length (strCells WJ)∧Below B w w'∧Lib.OthersKept 9 none w w'∧WJ.length≤ps.length+l.length+1:=by
 generalize hR:Ax.cE ps (a::l.map Prod.fst)=R
 have HR:Hid (Ax.cE ps (a::l.map Prod.fst)=R):=hR
 clear hR
 go_enter Tryz.func180,Tryz.ntmps180
 go_wp2_with (go_at_call 112;refine(jD _ _ _ _ _ _ _ (MR.below h ((Below.refl _ _).alloc (Nat.le_refl _) _)) hl).mono ?_;rintro e w1 ⟨Qz,c',rfl,pP,jt,bk⟩)
 have bK:Below w.heap.size w w1:=((Below.refl _ _).alloc (Nat.le_refl _) _).trans (bk.mono (by simp))
 have kW:=bK.size
 clear bk h
 generalize hL:(a,Value.slice ad a.ag.length c)::l=L at pP jt
 have TG:L.length=l.length+1:=by rw[←hL];rfl
 have RD:L.map Prod.fst=a::l.map Prod.fst:=by rw[←hL];rfl
 rw[←RD]at HR
 clear hL RD
 have hLa:L.length≤l.length+1:=by omega
 have hLb:l.length+1≤L.length:=by omega
 clear TG
 go_loopw [0,10] (fun v i wr=>∃(k:Nat) (qs:List ByteArray),k≤L.length∧i=.int .i64 k∧OP B w wr v qs k (L.map Prod.fst) ps.length R∧Lib.OthersKept 9 none w1 wr) (fun _ i _=>L.length-(intOf i).toNat)
 case atStart=>exact⟨0,ps,Nat.zero_le _,rfl,⟨af uK bK,bK.mono hB,by omega,bR bK,by omega,HR.out⟩,Lib.OthersKept.refl _ _ _⟩
 case round=>
  obtain⟨k,qs,hk,rfl,⟨aj,aR,Yq,sQ,T9,hr⟩,PT⟩:=hrel
  have WO:Hid (Ax.cE qs ((L.map Prod.fst).drop k)=R):=hr
  clear hr HR
  obtain⟨qd,qc,Xr⟩:=ah aj
  subst Xr
  by_cases aC:k<L.length
  · have bV:=bD pP PT (by decide)
    obtain⟨g,rfl,hg,hc,bA⟩:=ax bV (by omega)
    have gH:=bA _ _ (bF L k aC).1
    have gC:=bA _ _ (bF L k aC).2.1
    have iD:=bA _ _ (bF L k aC).2.2
    have yV:MA.ok wr L[k]:=qi jt PT (by decide) _ (List.getElem_mem aC)
    obtain⟨xd,xc,u7⟩:=ah yV
    rw[u7]at iD
    have fo:(L.map Prod.fst).drop k=(L[k]).1::(L.map Prod.fst).drop (k+1):=by
     rw[List.drop_eq_getElem_cons (by simpa using aC)];simp
    rw[fo]at WO
    generalize (L[k]).1=x at gH gC iD WO
    clear u7 bA bV fo yV pP
    cases hv:Ax.has qs x.pred
    case true=>
     have HN:Hid (Ax.cE qs ((L.map Prod.fst).drop (k+1))=R):=by
      have:=WO.out
      simp only[Ax.cE,hv,if_true]at this
      exact this
     go_wp2_with (go_at_call 225;refine(nX _ _ _ _ _ _ (aj.alloc _)).mono ?_;rintro e w2 ⟨rfl,rfl⟩)
     go_roundw
     case rel=>
      refine⟨k+1,qs,by omega,by go_num,⟨aj.alloc _,aR.alloc Yq _,by simp;omega,sQ.alloc _,by omega,HN.out⟩,PT.alloc _⟩
     case measure=>simp[intOf];omega
    case false=>
     have HN:Hid (Ax.cE (qs++[x.pred]) ((L.map Prod.fst).drop (k+1))=R):=by
      have:=WO.out
      simp only[Ax.cE,hv,Bool.false_eq_true,if_false]at this
      exact this
     go_wp2_with (first | (go_at_call 225;refine(nX _ _ _ _ _ _ (aj.alloc _)).mono ?_;rintro e w2 ⟨rfl,rfl⟩) | (at_builtin;go_must (obtain⟨i0,hi,eX,eP,eA⟩:=info_parts Tryz.vL;refine wpList_append_own _ rfl (.tmp 19) (.tmp 22) 46 rfl B 9 i0 _ 1 16 Tryz.underlying46 hi eX eP eA rfl (by decide) _ _ _ rfl ((aj.alloc _).alloc _) ⟨wr.heap.size+1,0,none⟩ 1 1 [.string x.pred] rfl rfl (eM _ _ _ _) (by simp[Value.oneCell']) (by unfold maxLen;omega) (by omega) (by simp;omega) ?_;intro v2 w2 aO bx _;clear hi eX eP eA;obtain⟨fU,mG⟩:=Er (by simp;omega) (aj.alloc _) (aR.alloc Yq _) (sQ.alloc _) bx;have XE:=((PT.alloc _).alloc _).grown bx (cu ((aj.alloc _).alloc _)))))
     go_roundw
     case rel=>
      refine⟨k+1,qs++[x.pred],by omega,by go_num,⟨?_,fU, ?_,mG,by simp;omega,HN.out⟩,XE⟩
      · rw[zg];simpa using aO
      · have:=bx.size;simp at this;omega
     case measure=>simp[intOf];omega
  · have A1:Hid (Lib.OthersKept 9 none w wr):=sQ
    clear sQ PT jt pP
    go_wp2_with fail
    go_ret
    rw[List.drop_eq_nil_of_le (by simp;omega)]at WO
    exact⟨qd,qc,qs,rfl,WO.out,aj,aR,A1,by omega⟩
end
/- Package record: what came and went, as bytes. -/
section
open Go.RowKit
structure FI where
 pred:ByteArray
 args:List ByteArray
 av:Value
def fN(l:List FI):List Value:=l.flatMap fun f=>[.string f.pred,f.av]
def FI.ok(w:World)(f:FI):Prop:=w.ownsRow 0 9 1 f.av f.args.length (strCells f.args)
structure dN(w:World)(fd:Option Addr)(fc:Nat)(l:List FI):Prop where
 row:w.ownsRow 0 48 2 (.slice fd l.length fc) l.length (fN l)
 each:∀f,f∈l→f.ok w
theorem dN.below{w w':World}{fd:Option Addr}{fc:Nat}{l:List FI}(h:dN w fd fc l)(hb:Below w.heap.size w w'):dN w' fd fc l:=⟨af h.row hb,fun f hf=>af (h.each f hf) hb⟩
theorem dN.others{w w':World}{fd:Option Addr}{fc:Nat}{l:List FI}{e:TypeId}(h:dN w fd fc l)(ho:Lib.OthersKept e none w w')(h1:48≠e)(h2:9≠e):dN w' fd fc l:=⟨bD h.row ho h1,fun f hf=>bD (h.each f hf) ho h2⟩
theorem eK(l:List FI)(k:Nat)(h:k<l.length):(fN l)[k*2]?=some (.string (l[k]).pred)∧(fN l)[k*2+1]?=some (l[k]).av:=by
 induction l generalizing k with
 | nil=>simp at h
 | cons a l ih=>
  cases k with
  | zero=>simp[fN]
  | succ k=>
   have:=ih k (by simpa using h)
   have e:fN (a::l)=.string a.pred::a.av::fN l:=rfl
   rw[e,show(k+1)*2+1=(k*2+1)+1+1 by omega,show(k+1)*2=k*2+1+1 by omega]
   simpa using this
namespace Rc
def fH(f:FI):List UInt8:=aL f.pred++f.args.flatMap aL
def kO(l:List FI):List UInt8:=aV l.length++l.flatMap fH
def fK(dO gone:List FI):List UInt8:=kO dO++kO gone
theorem rm(n:Nat)(h:n≤1000000000000):(aV n).length≤10:=by
 have e:(128:Nat)^10=1180591620717411303424:=by decide
 exact mC 10 n (by rw[e];omega) (by decide)
theorem iV(t:ByteArray)(h:t.size≤1000):(aL t).length≤1010:=by
 have:=rm t.size (by omega)
 unfold aL
 simp
 omega
theorem jA{α:Type}(f:α→List UInt8)(N:Nat):∀l:List α,(∀x,x∈l→(f x).length≤N)→(l.flatMap f).length≤N*l.length
 | [],_=>by simp
 | a::l,h=>by
  have h1:=jA f N l (fun x hx=>h x (by simp[hx]))
  have h2:=h a (by simp)
  rw[List.flatMap_cons,List.length_append,List.length_cons,Nat.mul_add]
  omega
end Rc
structure nt(l:List FI):Prop where
 oo:l.length≤1000
 cD:∀f,f∈l→f.pred.size≤1000
 args:∀f,f∈l→f.args.length≤1000
 names:∀f,f∈l→∀a,a∈f.args→a.size≤1000
theorem nt.fact{l:List FI}(h:nt l){f:FI}(hf:f∈l):(Rc.fH f).length≤1011010:=by
 have h1:=Rc.iV f.pred (h.cD f hf)
 have h2:=Rc.jA Rc.aL 1010 f.args (fun a ha=>Rc.iV a (h.names f hf a ha))
 have h3:=h.args f hf
 unfold Rc.fH
 rw[List.length_append]
 omega
theorem nt.facts{l:List FI}(h:nt l)(k:Nat):((l.take k).flatMap Rc.fH).length≤1011010000:=by
 have h1:=Rc.jA Rc.fH 1011010 (l.take k) (fun f hf=>h.fact (List.mem_of_mem_take hf))
 have h2:=h.oo
 have h3:(l.take k).length≤l.length:=by rw[List.length_take];omega
 have:1011010*(l.take k).length≤1011010*1000:=Nat.mul_le_mul_left _ (by omega)
 omega
structure qK(B:Nat)(w w':World)(v:Value)(n:Nat)(xs:List Value):Prop where
 own:w'.ownsRow B 5 1 v n xs
 be:Below B w w'
 Ft:Lib.OthersKept 5 none w w'
theorem qK.len{B:Nat}{w w':World}{v:Value}{n:Nat}{xs:List Value}(h:qK B w w' v n xs):xs.length=n:=by have:=h.own.1;omega
theorem aJ{e:TypeId}{w w1 w2:World}(h:Lib.OthersKept e none w w1)(k:Lib.OthersKept e none w1 w2):Lib.OthersKept e none w w2:=fun i o hi hn cL=>k i o (h i o hi hn cL) hn cL
theorem nV(B:Nat)(w:World)(v:Value)(n:Nat)(xs:List Value)(fd:Option Addr)(fc:Nat)(l:List FI)(hf:dN w fd fc l)(xE:nt l)(aj:w.ownsRow B 5 1 v n xs)(hB:B≤w.heap.size)(hn:n≤10000000000):
 Calls Tryz.prog 129 #[v,.slice fd l.length fc] w fun e w'=>∃v' n',e=.returned v'∧qK B w w' v' n' (xs++Rc.bB (Rc.kO l)):=by
 have qb:xs.length=n:=by have:=aj.1;omega
 have QC:=dH B w v n xs l.length aj hB (by omega) (by have:=xE.oo;omega)
 obtain⟨vd,vc,R7⟩:=ah aj
 subst R7
 have ML:Hid (nt l):=xE
 have HF:Hid (dN w fd fc l):=hf
 have hle:=aZ hf.row
 have ajU:=xE.oo
 have HNL:Hid ((Rc.aV l.length).length≤10):=Rc.rm l.length (by omega)
 clear aj hf xE
 go_enter Tryz.func129,Tryz.ntmps129
 go_wp2_with (go_at_call 78;refine QC.mono ?_;rintro e w1 ⟨v1,n1,rfl,bj,bk,PT⟩)
 have abu:Hid (qK B w w1 v1 n1 (xs++Rc.bB (Rc.aV l.length++(l.take 0).flatMap Rc.fH))):=⟨by simpa using bj,bk,PT⟩
 clear bj bk PT QC
 go_loopw [0,15] (fun a i wr=>∃(k m:Nat),k≤l.length∧i=.int .i64 k∧qK B w wr a m (xs++Rc.bB (Rc.aV l.length++(l.take k).flatMap Rc.fH))) (fun _ i _=>l.length-(intOf i).toNat)
 case atStart=>exact⟨0,n1,Nat.zero_le _,rfl,abu.out⟩
 case round=>
  obtain⟨k,m,hk,rfl,mK⟩:=hrel
  obtain⟨ad,ac,Jq⟩:=ah mK.own
  subst Jq
  have mR:Hid (qK B w wr (.slice ad m ac) m (xs++Rc.bB (Rc.aV l.length++(l.take k).flatMap Rc.fH))):=mK
  have Sl:m≤12000000000:=by
   have h1:=mK.len
   have h2:=ML.out.facts k
   have h3:=HNL.out
   rw[List.length_append,Rc.bC,List.length_append]at h1
   omega
  clear mK
  obtain⟨wA,rfl⟩:∃x,x=wr:=⟨_,rfl⟩
  by_cases aC:k<l.length
  · have hfi:dN wA fd fc l:=HF.out.others mR.out.Ft (by decide) (by decide)
    obtain⟨g,rfl,hg,hc,bA⟩:=ax hfi.row (by omega)
    have c0:=bA _ _ (eK l k aC).1
    have c1:=bA _ _ (eK l k aC).2
    have Qv:=hfi.each _ (List.getElem_mem aC)
    have V7:Hid ((l[k]).pred.size≤1000∧(l[k]).args.length≤1000∧∀a,a∈(l[k]).args→a.size≤1000):=⟨ML.out.cD _ (List.getElem_mem aC),ML.out.args _ (List.getElem_mem aC),ML.out.names _ (List.getElem_mem aC)⟩
    have gG:Hid ((l.take (k+1)).flatMap Rc.fH=(l.take k).flatMap Rc.fH++Rc.fH l[k]):=by
     have e0:l.take (k+1)=l.take k++[l[k]]:=by rw[List.take_add_one,List.getElem?_eq_getElem aC];rfl
     have e1:(l.take (k+1)).flatMap Rc.fH=(l.take k).flatMap Rc.fH++Rc.fH l[k]:=by rw[e0,List.flatMap_append];simp
     exact e1
    generalize l[k]=f at c0 c1 Qv V7 gG
    obtain⟨pd,args,av⟩:=f
    obtain⟨xd,xc,xq⟩:=ah Qv
    simp only at xq c0 c1
    subst xq
    have HFO:Hid (wA.ownsRow 0 9 1 (.slice xd args.length xc) args.length (strCells args)):=Qv
    have vh:Hid (Calls Tryz.prog 77 #[.slice ad m ac,.string pd] (wA.alloc (.cells #[.string pd,.slice xd args.length xc] 48)) fun e w2=>∃v2 n2,e=.returned v2∧Hid (qK B w w2 v2 n2 (xs++Rc.bB (Rc.aV l.length++(l.take k).flatMap Rc.fH)++Rc.bB (Rc.aL pd++(args.take 0).flatMap Rc.aL)))∧Hid (Lib.OthersKept 5 none (wA.alloc (.cells #[.string pd,.slice xd args.length xc] 48)) w2)∧w2.cell? ⟨wA.heap.size,1,none⟩=some (.slice xd args.length xc)∧wA.heap.size<w2.heap.size):=by
     refine(kC B _ (.slice ad m ac) m _ pd (mR.out.own.alloc _) (by have:=mR.out.be.size;simp;omega) (by omega) (by have:=V7.out.1;simp only at this;omega)).mono ?_
     rintro e w2 ⟨v2,n2,rfl,q1,q2,q3⟩
     refine⟨v2,n2,rfl,⟨by simpa using q1,(mR.out.be.alloc (by have:=mR.out.be.size;omega) _).trans q2,aJ (mR.out.Ft.alloc _) q3⟩,q3, ?_, ?_⟩
     · have hb:=q3 wA.heap.size _ (heap_alloc_new wA _) (by simp) (fun c fz e=>by simp at e)
       rw[cell_of_row _ _ _ _ _ _ hb]
       rfl
     · exact lt_of_heap (q3 wA.heap.size _ (heap_alloc_new wA _) (by simp) (fun c fz e=>by simp at e))
    clear bA hfi Qv
    go_wp2_with (go_at_call 77;refine vh.out.mono ?_;rintro e w2 ⟨v2,n2,rfl,YP,HO2,uw,zv⟩)
    generalize jy:xs++Rc.bB (Rc.aV l.length++(l.take k).flatMap Rc.fH)=base at YP
    have YX:Hid (xs++Rc.bB (Rc.aV l.length++(l.take k).flatMap Rc.fH)=base):=jy
    have fE:base.length≤12000000000:=by
     rw[←jy,mR.out.len]
     exact Sl
    clear jy vh c0 c1
    have YM:Hid ((wA.alloc (.cells #[.string pd,.slice xd args.length xc] 48)).ownsRow 0 9 1 (.slice xd args.length xc) args.length (strCells args)):=HFO.out.alloc _
    generalize wA.alloc (.cells #[.string pd,.slice xd args.length xc] 48)=wB at HO2 YM
    have TL:Hid (∀j,(Rc.aL pd++(args.take j).flatMap Rc.aL).length≤1011010):=by
     intro j
     have h1:=Rc.iV pd V7.out.1
     have h2:=Rc.jA Rc.aL 1010 (args.take j) (fun a ha=>Rc.iV a (V7.out.2.2 a (List.mem_of_mem_take ha)))
     have h3:(args.take j).length≤1000:=by have h9:=V7.out.2.1;rw[List.length_take];omega
     rw[List.length_append]
     omega
    have PE:args.length≤1000:=V7.out.2.1
    go_loopw [0,26] (fun a i wr=>∃(j m2:Nat),j≤args.length∧i=.int .i64 j∧qK B w wr a m2 (base++Rc.bB (Rc.aL pd++(args.take j).flatMap Rc.aL))∧Lib.OthersKept 5 none wB wr) (fun _ i _=>args.length-(intOf i).toNat)
    case atStart=>exact⟨0,n2,Nat.zero_le _,rfl,YP.out,HO2.out⟩
    case round=>
     obtain⟨j,m2,hj,rfl,Qr,Xt⟩:=hrel
     obtain⟨bd,bc,bK⟩:=ah Qr.own
     subst bK
     have JG:Hid (qK B w wr (.slice bd m2 bc) m2 (base++Rc.bB (Rc.aL pd++(args.take j).flatMap Rc.aL))):=Qr
     have HO3:Hid (Lib.OthersKept 5 none wB wr):=Xt
     by_cases CU:j<args.length
     · have HLJ:Hid (j<args.length):=CU
       have bV:=bD YM.out HO3.out (by decide)
       obtain⟨g3,rfl,nB,uP,kk⟩:=ax bV (by omega)
       have ca:wr.cell? ⟨g3,j,none⟩=some (.string args[j]):=kk j _ (by rw[strCells,List.getElem?_map,List.getElem?_eq_getElem CU];rfl)
       have M9:m2≤20000000000:=by
        have h1:=JG.out.len
        have h2:=TL.out j
        rw[List.length_append,Rc.bC]at h1
        omega
       have Zz:Hid ((args.take (j+1)).flatMap Rc.aL=(args.take j).flatMap Rc.aL++Rc.aL args[j]):=by
        have e0:args.take (j+1)=args.take j++[args[j]]:=by rw[List.take_add_one,List.getElem?_eq_getElem CU];rfl
        have e1:(args.take (j+1)).flatMap Rc.aL=(args.take j).flatMap Rc.aL++Rc.aL args[j]:=by rw[e0,List.flatMap_append];simp
        exact e1
       have cr:(args[j]).size≤1000:=V7.out.2.2 _ (List.getElem_mem CU)
       generalize args[j]=q at ca Zz cr
       have ac9:Hid (Calls Tryz.prog 77 #[.slice bd m2 bc,.string q] wr fun e w5=>∃v5 n5,e=.returned v5∧Hid (qK B w w5 v5 n5 (base++Rc.bB (Rc.aL pd++(args.take (j+1)).flatMap Rc.aL)))∧Hid (Lib.OthersKept 5 none wB w5)):=by
        refine(kC B wr (.slice bd m2 bc) m2 _ q JG.out.own (Nat.le_trans hB JG.out.be.size) (by omega) (by omega)).mono ?_
        rintro e w5 ⟨v5,n5,rfl,q1,q2,q3⟩
        refine⟨v5,n5,rfl,⟨?_,JG.out.be.trans q2,aJ JG.out.Ft q3⟩,aJ HO3.out q3⟩
        rw[Zz.out,←List.append_assoc,Rc.gq,←List.append_assoc]
        exact q1
       clear Qr Xt bV kk
       go_wp2_with (go_at_call 77;refine ac9.out.mono ?_;rintro e w5 ⟨v5,n5,rfl,ac5,HO5⟩)
       go_roundw
       case rel=>exact⟨j+1,n5,HLJ.out,by go_num,ac5.out,HO5.out⟩
       case measure=>
        have h9:=HLJ.out
        simp[intOf]
        omega
     · have HE:Hid (qK B w wr (.slice bd m2 bc) m2 (xs++Rc.bB (Rc.aV l.length++(l.take (k+1)).flatMap Rc.fH))):=by
        have h1:=JG.out
        have e0:args.take j=args:=List.take_of_length_le (by omega)
        rw[e0,←YX.out]at h1
        rw[gG.out,←List.append_assoc,Rc.gq,←List.append_assoc]
        exact h1
       clear Qr Xt
       go_wp2_with fail
       go_roundw
       case rel=>exact⟨k+1,m2,by omega,by go_num,HE.out⟩
       case measure=>simp[intOf];omega
  · have HE:Hid (qK B w wA (.slice ad m ac) m (xs++Rc.bB (Rc.kO l))):=by
     have h1:=mR.out
     have e0:l.take k=l:=List.take_of_length_le (by omega)
     rw[e0]at h1
     exact h1
    go_wp2_with fail
    go_ret
    exact⟨_,m,rfl,HE.out⟩
end
/- Tables of facts: rows in order, where one is found, where one is put. No program here. -/
namespace Tb
def slt(a b:ByteArray):Bool:=Op.bytesLess a.toList b.toList
theorem toList_inj{a b:ByteArray}(h:a.toList=b.toList):a=b:=by
 rw[ByteArray.toList_eq,ByteArray.toList_eq]at h
 rcases a with⟨⟨a⟩⟩
 rcases b with⟨⟨b⟩⟩
 simp at h
 rw[h]
theorem nw(a b:ByteArray):slt a b=true↔a.toList<b.toList:=by
 unfold slt
 rw[bytesLess_eq]
 simp
theorem nP(a:ByteArray):slt a a=false:=by
 rw[Bool.eq_false_iff]
 intro h
 exact List.lt_irrefl _ ((nw a a).1 h)
theorem pH{a b c:ByteArray}(h:slt a b=true)(k:slt b c=true):slt a c=true:=
 (nw a c).2 (List.lt_trans ((nw a b).1 h) ((nw b c).1 k))
theorem vP{a b:ByteArray}(h:slt a b=false)(k:slt b a=false):a=b:=by
 refine toList_inj ?_
 have h':¬a.toList<b.toList:=fun e=>by rw[(nw a b).2 e]at h;cases h
 have k':¬b.toList<a.toList:=fun e=>by rw[(nw b a).2 e]at k;cases k
 exact List.le_antisymm (List.not_lt.1 k') (List.not_lt.1 h')
theorem wV{a b:ByteArray}(h:slt a b=true):slt b a=false:=by
 rw[Bool.eq_false_iff]
 intro k
 have:=pH h k
 rw[nP]at this
 cases this
def iA(a b:ByteArray):Int:=if slt a b=true then-1 else if slt b a=true then 1 else 0
theorem mI{a b:ByteArray}:iA a b=0↔a=b:=by
 unfold iA
 constructor
 · intro h
   cases h1:slt a b with
   | true=>rw[h1]at h;simp at h
   | false=>
    cases h2:slt b a with
    | true=>rw[h1,h2]at h;simp at h
    | false=>exact vP h1 h2
 · rintro rfl
   simp[nP]
theorem ou{a b:ByteArray}:iA a b<0↔slt a b=true:=by
 unfold iA
 cases h1:slt a b<;>cases h2:slt b a<;>simp
theorem M1{a b:ByteArray}:0<iA a b↔slt b a=true:=by
 unfold iA
 cases h1:slt a b with
 | true=>have:=wV h1;simp[this]
 | false=>cases h2:slt b a<;>simp
def db:List ByteArray→List ByteArray→Int
 | [],[]=>0
 | [],_::_=> -1
 | _::_,[]=>1
 | a::p,b::q=>if iA a b≠0 then iA a b else db p q
theorem sW:∀{a b:List ByteArray},db a b=0↔a=b
 | [],[]=>by simp[db]
 | [],_::_=>by simp[db]
 | _::_,[]=>by simp[db]
 | a::p,b::q=>by
  unfold db
  by_cases h:iA a b=0
  · rw[if_neg (by simpa using h),sW,mI.1 h]
    simp
  · rw[if_pos h]
    constructor
    · intro e;exact absurd e h
    · intro e
      simp only[List.cons.injEq]at e
      exact mI.2 e.1
theorem kB:∀{a b c:List ByteArray},db a b<0→db b c<0→db a c<0
 | [],[],c,h,_=>by simp[db]at h
 | _::_,[],c,h,_=>by simp[db]at h
 | [],_::_,[],_,k=>by simp[db]at k
 | [],_::_,_::_,_,_=>by simp[db]
 | _::_,_::_,[],_,k=>by simp[db]at k
 | a::p,b::q,c::o,h,k=>by
  unfold db at h k ⊢
  by_cases h1:iA a b=0
  · rw[if_neg (by simpa using h1)]at h
    have e:=mI.1 h1
    subst e
    by_cases h2:iA a c=0
    · rw[if_neg (by simpa using h2)]at k ⊢
      exact kB h k
    · rw[if_pos h2]at k ⊢
      exact k
  · rw[if_pos h1]at h
    by_cases h2:iA b c=0
    · have e:=mI.1 h2
      subst e
      rw[if_pos h1]
      exact h
    · rw[if_pos h2]at k
      have h3:=pH (ou.1 h) (ou.1 k)
      have h4:=ou.2 h3
      rw[if_pos (by omega)]
      exact h4
theorem ky(a:List ByteArray):db a a=0:=sW.2 rfl
theorem Bp:∀{a b:List ByteArray},¬db a b<0→¬a=b→db b a<0
 | [],[],_,k=>absurd rfl k
 | [],_::_,h,_=>by simp[db]at h
 | _::_,[],_,_=>by simp[db]
 | a::p,b::q,h,k=>by
  unfold db at h ⊢
  by_cases h1:iA a b=0
  · have e:=mI.1 h1
    subst e
    rw[if_neg (by simpa using h1)]at h
    rw[if_neg (by simpa using h1)]
    exact Bp h (fun e=>k (by rw[e]))
  · rw[if_pos h1]at h
    have h2:0<iA a b:=by omega
    have h3:iA b a<0:=ou.2 (M1.1 h2)
    rw[if_pos (by omega)]
    exact h3
abbrev Rw:=List ByteArray
def Ord(L:List Rw):Prop:=L.Pairwise fun a b=>db a b<0
def pos(L:List Rw)(r:Rw):Nat:=L.countP fun x=>decide (db x r<0)
theorem qu(L:List Rw)(r:Rw):pos L r≤L.length:=List.countP_le_length
theorem Ord.nodup{L:List Rw}(h:Ord L):L.Nodup:=by
 refine List.Pairwise.imp ?_ h
 intro a b pS e
 subst e
 rw[ky]at pS
 omega
theorem rB:∀{L:List Rw} (_:Ord L) (r:Rw),(∀x,x∈L.take (pos L r)→db x r<0)∧(∀x,x∈L.drop (pos L r)→¬db x r<0)
 | [],_,r=>by simp[pos]
 | a::L,h,r=>by
  obtain⟨h1,h2⟩:=List.pairwise_cons.1 h
  by_cases ha:db a r<0
  · have e:pos (a::L) r=pos L r+1:=by simp[pos,List.countP_cons,ha]
    rw[e]
    obtain⟨i1,i2⟩:=rB h2 r
    refine⟨?_, ?_⟩
    · intro x hx
      rw[List.take_succ_cons]at hx
      rcases List.mem_cons.1 hx with rfl | hx
      · exact ha
      · exact i1 x hx
    · intro x hx
      rw[List.drop_succ_cons]at hx
      exact i2 x hx
  · have ju:∀x,x∈L→¬db x r<0:=by
     intro x hx k
     exact ha (kB (h1 x hx) k)
    have e0:pos L r=0:=by
     unfold pos
     rw[List.countP_eq_zero]
     intro x hx
     simpa using ju x hx
    have e:pos (a::L) r=0:=by
     have:pos (a::L) r=pos L r:=by simp[pos,List.countP_cons,ha]
     rw[this,e0]
    rw[e]
    refine⟨by simp, ?_⟩
    intro x hx
    rw[List.drop_zero]at hx
    rcases List.mem_cons.1 hx with rfl | hx
    · exact ha
    · exact ju x hx
theorem Fm{L:List Rw}(h:Ord L){a b:Nat}(pS:a≤b)(hb:b<L.length){r:Rw}(k:db L[b] r<0):db (L[a]'(by omega)) r<0:=by
 rcases Nat.lt_or_ge a b with h1 | h1
 · have:=(List.pairwise_iff_getElem.1 h) a b (by omega) hb h1
   exact kB this k
 · have:a=b:=by omega
   subst this
   exact k
theorem fQ{L:List Rw}(h:Ord L)(r:Rw):L[pos L r]?=some r↔r∈L:=by
 constructor
 · intro e;exact List.mem_of_getElem? e
 · intro hr
   obtain⟨h1,h2⟩:=rB h r
   have hd:r∈L.drop (pos L r):=by
    rw[←List.take_append_drop (pos L r) L]at hr
    rcases List.mem_append.1 hr with k | k
    · have:=h1 r k
      rw[ky]at this
      omega
    · exact k
   cases hc:L.drop (pos L r)with
   | nil=>rw[hc]at hd;simp at hd
   | cons x t=>
    have hx:L[pos L r]?=some x:=by
     have:=congrArg (fun l=>l[0]?) hc
     simpa using this
    rw[hx]
    congr 1
    have hp:Ord (x::t):=by rw[←hc];exact List.Pairwise.sublist (List.drop_sublist _ _) h
    rw[hc]at hd
    rcases List.mem_cons.1 hd with e | e
    · exact e.symm
    · have k1:=(List.pairwise_cons.1 hp).1 r e
      have k2:=h2 x (by rw[hc];simp)
      exact absurd k1 k2
def ins(L:List Rw)(r:Rw):List Rw:=L.take (pos L r)++r::L.drop (pos L r)
def lO{F:Type}[DecidableEq F](L:List F)(f:F):Bool:=decide (f∈L)
theorem dM{F:Type}[DecidableEq F]{L:List F}{f:F}:lO L f=true↔f∈L:=by simp[lO]
def put(L:List Rw)(r:Rw):List Rw:=if lO L r=true then L else ins L r
theorem Se{L:List Rw}{r x:Rw}:x∈ins L r↔x=r∨x∈L:=by
 unfold ins
 have e:x∈L↔x∈L.take (pos L r)∨x∈L.drop (pos L r):=by
  rw[←List.mem_append,List.take_append_drop]
 rw[e]
 simp only[List.mem_append,List.mem_cons]
 constructor
 · rintro(h | h | h)
   · exact .inr (.inl h)
   · exact .inl h
   · exact .inr (.inr h)
 · rintro(h | h | h)
   · exact .inr (.inl h)
   · exact .inl h
   · exact .inr (.inr h)
theorem sA{L:List Rw}{r x:Rw}:x∈put L r↔x=r∨x∈L:=by
 unfold put
 split
 · rename_i h
   rw[dM]at h
   constructor
   · exact .inr
   · rintro(rfl | k)
     · exact h
     · exact k
 · exact Se
theorem Rb{L:List Rw}(h:Ord L){r:Rw}(hr:¬r∈L):Ord (ins L r):=by
 obtain⟨h1,h2⟩:=rB h r
 unfold Ord ins
 rw[List.pairwise_append]
 have hd:∀x,x∈L.drop (pos L r)→db r x<0:=by
  intro x hx
  refine Bp (h2 x hx) ?_
  rintro rfl
  exact hr (List.mem_of_mem_drop hx)
 refine⟨List.Pairwise.sublist (List.take_sublist _ _) h, ?_, ?_⟩
 · rw[List.pairwise_cons]
   exact⟨hd,List.Pairwise.sublist (List.drop_sublist _ _) h⟩
 · intro a ha b hb
   rcases List.mem_cons.1 hb with rfl | hb
   · exact h1 a ha
   · exact kB (h1 a ha) (hd b hb)
theorem Iq{L:List Rw}(h:Ord L)(r:Rw):Ord (put L r):=by
 unfold put
 split
 · exact h
 · rename_i hr
   rw[dM]at hr
   exact Rb h hr
def del(L:List Rw)(r:Rw):List Rw:=L.take (pos L r)++L.drop (pos L r+1)
def leave(L:List Rw)(r:Rw):List Rw:=if lO L r=true then del L r else L
theorem Kr{L:List Rw}(h:Ord L)(r:Rw):Ord (leave L r):=by
 unfold leave
 split
 · refine List.Pairwise.sublist ?_ h
   unfold del
   conv=>rhs;rw[←List.take_append_drop (pos L r) L]
   refine List.Sublist.append (List.Sublist.refl _) ?_
   rw[←List.drop_drop]
   exact List.drop_sublist _ _
 · exact h
theorem KR{L:List Rw}(h:Ord L){r x:Rw}:x∈leave L r↔x∈L∧x≠r:=by
 unfold leave
 split
 · rename_i hr
   rw[dM]at hr
   have hf:=(fQ h r).2 hr
   have aC:pos L r<L.length:=(List.getElem?_eq_some_iff.1 hf).1
   have hg:L[pos L r]=r:=(List.getElem?_eq_some_iff.1 hf).2
   have e:L=L.take (pos L r)++r::L.drop (pos L r+1):=by
    conv=>lhs;rw[←List.take_append_drop (pos L r) L]
    rw[List.drop_eq_getElem_cons aC,hg]
   have hn:=h.nodup
   unfold del
   rw[e]at hn
   rw[List.nodup_append]at hn
   obtain⟨n1,n2,n3⟩:=hn
   have n4:=(List.nodup_cons.1 n2).1
   constructor
   · intro hx
     rcases List.mem_append.1 hx with hx | hx
     · exact⟨List.mem_of_mem_take hx,fun e2=>n3 x hx r (by simp) e2⟩
     · exact⟨List.mem_of_mem_drop hx,fun e2=>n4 (e2▸hx)⟩
   · rintro⟨hx,cL⟩
     rw[e]at hx
     rcases List.mem_append.1 hx with hx | hx
     · exact List.mem_append_left _ hx
     · rcases List.mem_cons.1 hx with rfl | hx
       · exact absurd rfl cL
       · exact List.mem_append_right _ hx
 · rename_i hr
   rw[dM]at hr
   constructor
   · intro hx;exact⟨hx,fun e=>hr (e▸hx)⟩
   · exact fun hx=>hx.1
end Tb
/- cmp.Compare, slices.Compare at strings; compareRows. -/
section
open Go.RowKit
theorem tU(w:World)(x:ByteArray):Calls Tryz.prog 256 #[.string x] w fun e w'=>e=.returned (.bool false)∧w'=w:=by
 have hb:(x.toList != x.toList)=false:=by simp
 go_enter Tryz.func256,Tryz.ntmps256
 go_wp2_with fail
 go_ret
 simp
theorem oV(w:World)(x y:ByteArray):Calls Tryz.prog 247 #[.string x,.string y] w fun e w'=>e=.returned (.int .i64 (Tb.iA x y))∧w'=w:=by
 have h1:Op.bytesLess x.toList y.toList=Tb.slt x y:=rfl
 have h2:(!(Tb.slt x y||x.toList==y.toList))=Tb.slt y x:=by
  rw[eF]
  cases a:Tb.slt x y with
  | true=>rw[Tb.wV a];rfl
  | false=>
   cases c:Tb.slt y x with
   | true=>
    have:¬x=y:=by rintro rfl;rw[Tb.nP]at c;cases c
    simp[this]
   | false=>simp[Tb.vP a c]
 generalize hR:Tb.iA x y=R
 unfold Tb.iA at hR
 cases a:Tb.slt x y with
 | true=>
  rw[a]at h1 hR
  simp at hR
  clear h2 a
  go_enter Tryz.func247,Tryz.ntmps247
  go_wp2_with (first | (go_at_call 256;refine(tU _ _).mono ?_;rintro e w' ⟨rfl,rfl⟩))
  go_ret
  exact⟨by rw[←hR];rfl,rfl⟩
 | false=>
  rw[a]at h1 hR h2
  cases c:Tb.slt y x with
  | true=>
   rw[c]at hR h2
   simp at hR
   clear a c
   have h3:(x.toList==y.toList)=false:=by simpa using h2
   clear h2
   go_enter Tryz.func247,Tryz.ntmps247
   go_wp2_with (first | (go_at_call 256;refine(tU _ _).mono ?_;rintro e w' ⟨rfl,rfl⟩))
   go_ret
   exact⟨by rw[←hR];rfl,rfl⟩
  | false=>
   rw[c]at hR h2
   simp at hR
   clear a c
   have h3:(x.toList==y.toList)=true:=by simpa using h2
   clear h2
   go_enter Tryz.func247,Tryz.ntmps247
   go_wp2_with (first | (go_at_call 256;refine(tU _ _).mono ?_;rintro e w' ⟨rfl,rfl⟩))
   go_ret
   exact⟨by rw[←hR];rfl,rfl⟩
end
end Go.Proofs.YtdmicblafmhflaaGreatDoor
