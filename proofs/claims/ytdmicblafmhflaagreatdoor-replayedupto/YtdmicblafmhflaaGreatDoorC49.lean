/- record.readFacts, walked. -/
import Derived.Test.YtdmicblafmhflaaGreatDoorC48
import Derived.Laws.BytesArg
import Derived.Test.YtdmicblafmhflaaGreatDoorC42
set_option linter.unusedSimpArgs false
set_option linter.unusedVariables false
set_option maxHeartbeats 4000000
set_option maxRecDepth 100000
namespace Go.Proofs.YtdmicblafmhflaaGreatDoor
section
open Go.RowKit Go.Maps
theorem ly.kept{w w':World}{qd:Option Addr}{qc:Nat}{Q:List Pd.Pr}(h:ly w qd qc Q){rb:Nat}{l:List UInt8}{f:Bool}(hr:bC w rb l f)(hk:Kb [rb] w w'):ly w' qd qc Q:=by
 refine⟨hk.dV h.1 (fun b cur fz hb e=> ?_),h.2⟩
 simp at hb
 subst hb
 unfold bC at hr
 rw[hr]at e
 simp at e
theorem Hm{is:List Nat}{k:Nat}(hk:k<is.length)(t:List UInt8):(is.drop k).flatMap Rc.fD++t=Rc.aC (be is[k]).1++((be is[k]).2.flatMap Rc.aC++((is.drop (k+1)).flatMap Rc.fD++t)):=by
 rw[List.drop_eq_getElem_cons hk,List.flatMap_cons]
 simp[Rc.fD]
theorem kO{α:Type}(l:List α){k:Nat}(hk:k<l.length):l.take (k+1)=l.take k++[l[k]]:=by rw[List.take_add_one,List.getElem?_eq_getElem hk];rfl
theorem Le{X:List ByteArray}{k:Nat}(hk:k<X.length)(t:List UInt8):(X.drop k).flatMap Rc.aC++t=Rc.aC X[k]++((X.drop (k+1)).flatMap Rc.aC++t):=by
 rw[List.drop_eq_getElem_cons hk,List.flatMap_cons,List.append_assoc]
theorem pP(w:World)(rb:Nat)(is:List Nat)(t:List UInt8)(h:bC w rb (Rc.aQ is.length++(is.flatMap Rc.fD++t)) false)(hl:(Rc.aQ is.length++(is.flatMap Rc.fD++t)).length≤1000000000)(hn:is.length≤30)(Kw:∀i,i∈is→i<36)(qd:Option Addr)(qc:Nat)(Q:List Pd.Pr)(hq:ly w qd qc Q):
 Calls Tryz.prog 145 #[.pointer (some ⟨rb,0,none⟩),.slice qd Q.length qc] w fun e w'=>∃lb F,e=.returned (.slice (some ⟨lb,0,none⟩) is.length is.length)∧bM w' (some ⟨lb,0,none⟩) is.length F∧fI F is∧(∀f,f∈F→w'.ownsRow w.heap.size 9 1 f.av f.args.length (strCells f.args))∧w.heap.size≤lb∧bC w' rb t false∧Kb [rb] w w':=by
 obtain⟨i0,jt,ew,dZ,dU⟩:=info_parts Tryz.ow
 obtain⟨s0,E9,TJ,Yq,YP⟩:=info_parts Tryz.py
 have gh:=eJ w rb _ false 64 h hl
 rw[Rd.eM (by omega) (by omega)]at gh
 have tq:Hid (∀W,Kb [rb] w W→ly W qd qc Q):=fun W hW=>hq.kept h hW
 have TL:Hid (∀k,((is.drop k).flatMap Rc.fD++t).length≤1000000000):=by
  intro k
  have h1:is.flatMap Rc.fD=(is.take k).flatMap Rc.fD++(is.drop k).flatMap Rc.fD:=by rw[←List.flatMap_append,List.take_append_drop]
  rw[h1]at hl
  simp only[List.length_append]at hl ⊢
  omega
 have Br:Hid (Calls Tryz.prog 139 #[.pointer (some ⟨rb,0,none⟩),.int .i64 64] w fun e w'=>e=.returned (.int .i64 (is.length:Nat))∧Hid (bC w' rb (is.flatMap Rc.fD++t) false∧Kb [rb] w w')):=gh.mono (fun e w' ⟨a,b⟩=>⟨a,b⟩)
 have Yz:Hid (∀i,i∈is→i<36):=Kw
 have T6:Hid (Tryz.prog.info? 9=some s0∧s0.zero=some (.string ByteArray.empty)∧s0.size=1∧s0.bytes=16):=⟨E9,TJ,Yq,YP⟩
 clear gh h hl hq Kw E9 TJ Yq YP
 go_enter Tryz.func145,Tryz.ntmps145
 go_wp2_with (first | (go_at_call 139;refine Br.out.mono ?_;rintro e w1 ⟨rfl,H1⟩) | (at_make;refine wpList_make_full _ rfl _ _ 37 rfl w1.heap.size 48 i0 _ 2 Tryz.underlying37 jt ew dZ .i64 .i64 is.length is.length is.length rfl rfl rfl rfl (by rw[dU];omega) (by unfold maxLen;omega) (Nat.le_refl _) ?_;intro w2 aR bR))
 have NZ:Hid (AN w w2 rb w1.heap.size is.length [] ((is.drop 0).flatMap Rc.fD++t)):=by
  have a8:Below w1.heap.size w1 w2:=(Below.refl _ _).grown bR (Nat.le_refl _) (fun q hq=>by cases hq)
  refine⟨?_,(fun f hf=>by cases hf), ?_,H1.out.2.below a8,H1.out.2.size,Nat.zero_le _⟩
  · obtain⟨_,⟨e1,_⟩ | ⟨g',cap,cur,e1,_,e3,_,_,e6,e7⟩⟩:=aR
    · cases e1
    · simp only[Value.slice.injEq,Option.some.injEq,Addr.mk.injEq,and_true,true_and]at e1
      obtain⟨rfl,rfl⟩:=e1
      rw[List.take_of_length_le (by rw[Array.length_toList,e6];exact Nat.le_refl _)]at e7
      have e8:cur.toList=jD is.length:=by rw[e7];exact GF is.length
      rw[e3]
      have e9:cur=(dC []++jD (is.length-([]:List FI).length)).toArray:=by
       rw[List.length_nil,Nat.sub_zero,←e8]
       simp[dC]
      rw[←e9]
  · unfold bC
    rw[a8.block _ (lt_of_heap H1.out.1)]
    exact H1.out.1
 have HLB:Hid (w.heap.size≤w1.heap.size):=H1.out.2.size
 clear aR bR jt ew dZ dU H1 Br
 generalize w1.heap.size=lb at*
 go_loopw [15] (fun i wr=>∃(k:Nat) (F:List FI),k≤is.length∧i=.int .i64 k∧F.length=k∧F.map (fun f=>(f.pred,f.args))=(is.take k).map be∧AN w wr rb lb is.length F ((is.drop k).flatMap Rc.fD++t)) (fun i _=>is.length-(intOf i).toNat)
 case atStart=>exact⟨0,[],Nat.zero_le _,rfl,rfl,rfl,NZ.out⟩
 case round=>
  obtain⟨k,F,hk,rfl,hFk,XT,hF⟩:=hrel
  clear NZ
  obtain⟨wA,rfl⟩:∃x,x=wr:=⟨_,rfl⟩
  by_cases aE:k<is.length
  · have Mv:=Yz.out _ (List.getElem_mem aE)
    have fS:Hid ((is.take (k+1)).map be=(is.take k).map be++[((be is[k]).1,(be is[k]).2)]):=by
     have e1:(is.take (k+1)).map be=(is.take k).map be++[((be is[k]).1,(be is[k]).2)]:=by rw[kO is aE,List.map_append];rfl
     exact e1
    obtain⟨a1,a2,a3⟩:=JC _ Mv
    have rD:=iL wA rb _ _ hF.rd (TL.out k)
    rw[Hm aE t,Rd.j9 (by omega)]at rD
    simp only[Rd.sB]at rD
    have Gr:Hid (∀W,Kb [rb] w W→Calls Tryz.prog 206 #[.slice qd Q.length qc,.string (be is[k]).1] W fun e w'=>e=.returned (.int .i64 ((be is[k]).2.length:Nat))∧Hid (Below W.heap.size W w')):=by
     intro W hW
     have hp:=tq.out W hW
     rw[←hp.pl Mv]
     exact(Bb W 0 qd qc Q (be is[k]).1 hp.1 hp.2.1).mono (fun e w' ⟨a,b⟩=>⟨a,b⟩)
    have HRL:Hid (((be is[k]).2.flatMap Rc.aC++((is.drop (k+1)).flatMap Rc.fD++t)).length≤1000000000):=by
     have h9:=TL.out k
     rw[Hm aE t,List.length_append]at h9
     exact Nat.le_trans (Nat.le_add_left _ _) h9
    have VU:Hid (AN w wA rb lb is.length F ((is.drop k).flatMap Rc.fD++t)):=hF
    have HFD:Hid (F.map (fun f=>(f.pred,f.args))=(is.take k).map be):=XT
    generalize (be is[k]).1=pd at*
    generalize (be is[k]).2=X at*
    generalize hre:(is.drop (k+1)).flatMap Rc.fD++t=rest at*
    have HRE:Hid ((is.drop (k+1)).flatMap Rc.fD++t=rest):=hre
    clear hre
    have qE:Hid (Calls Tryz.prog 81 #[.pointer (some ⟨rb,0,none⟩)] wA fun e w2=>e=.returned (.string pd)∧Hid (AN w w2 rb lb is.length F (X.flatMap Rc.aC++rest))):=by
     refine rD.mono ?_
     rintro e w5 ⟨rfl,q1,q2⟩
     exact⟨rfl,VU.out.read q2 q1⟩
    have A3:Hid (∀x,x∈X→x.size<1000):=a3
    clear rD hF XT a3 Mv
    go_wp2_with (first | (go_at_call 81;refine qE.out.mono ?_;rintro e w3 ⟨rfl,H3⟩) | (go_at_call 206;refine(Gr.out w3 H3.out.kb).mono ?_;rintro e w4 ⟨rfl,H4⟩) | (at_make;refine wpList_make_full _ rfl _ _ 46 rfl w4.heap.size 9 s0 _ 1 Tryz.underlying46 T6.out.1 T6.out.2.1 T6.out.2.2.1 .i64 .i64 X.length X.length X.length rfl rfl rfl rfl (by rw[T6.out.2.2.2];omega) (by unfold maxLen;omega) (Nat.le_refl _) ?_;intro w5 zR xD))
    have ZY:Hid (AN w w4 rb lb is.length F (X.flatMap Rc.aC++rest)):=H3.out.below H4.out
    have HS5:Hid (kF w4 w5 rb w4.heap.size X.length (X.take 0) ((X.drop 0).flatMap Rc.aC++rest) false):=by
     have a8:Below w4.heap.size w4 w5:=(Below.refl _ _).grown xD (Nat.le_refl _) (fun q hq=>by cases hq)
     refine⟨?_, ?_,Kb.bF a8 _,Nat.le_refl _,Nat.zero_le _⟩
     · obtain⟨_,⟨e1,_⟩ | ⟨g',cap,cur,e1,_,e3,_,_,e6,e7⟩⟩:=zR
       · cases e1
       · simp only[Value.slice.injEq,Option.some.injEq,Addr.mk.injEq,and_true,true_and]at e1
         obtain⟨rfl,rfl⟩:=e1
         rw[List.take_of_length_le (by rw[Array.length_toList,e6];exact Nat.le_refl _),Nat.mul_one]at e7
         have e8:cur.toList=List.replicate X.length (Value.string ByteArray.empty):=by rw[e7];exact tR X.length
         rw[e3]
         have e9:cur=(strCells (X.take 0)++List.replicate (X.length-(X.take 0).length) (Value.string ByteArray.empty)).toArray:=by
          rw[List.take_zero,List.length_nil,Nat.sub_zero,←e8]
          simp[strCells]
         rw[←e9]
     · unfold bC
       rw[a8.block _ (lt_of_heap ZY.out.rd)]
       exact ZY.out.rd
    have ZN:Hid (w.heap.size≤w4.heap.size):=ZY.out.kb.size
    clear zR xD H3 H4 qE Gr VU
    go_loopw [26] (fun i wr=>∃(j:Nat),j≤X.length∧i=.int .i64 j∧kF w4 wr rb w4.heap.size X.length (X.take j) ((X.drop j).flatMap Rc.aC++rest) false) (fun i _=>X.length-(intOf i).toNat)
    case atStart=>exact⟨0,Nat.zero_le _,rfl,HS5.out⟩
    case round=>
     obtain⟨j,hj,rfl,hS⟩:=hrel
     clear HS5
     by_cases rJ:j<X.length
     · have Uj:(X.take j).length=j:=by rw[List.length_take];omega
       have rD:=iL wr rb _ _ hS.rd (by
        have h9:=HRL.out
        have h1:X.flatMap Rc.aC=(X.take j).flatMap Rc.aC++(X.drop j).flatMap Rc.aC:=by rw[←List.flatMap_append,List.take_append_drop]
        rw[h1]at h9
        simp only[List.length_append]at h9 ⊢
        omega)
       rw[Le rJ rest,Rd.j9 (by have:=A3.out _ (List.getElem_mem rJ);omega)]at rD
       simp only[Rd.sB]at rD
       have ON:Hid (X.take (j+1)=X.take j++[X[j]]):=kO X rJ
       have ZU:Hid (Calls Tryz.prog 81 #[.pointer (some ⟨rb,0,none⟩)] wr fun e w6=>e=.returned (.string X[j])∧w6.cell? ⟨w4.heap.size,j,none⟩=some (.string ByteArray.empty)∧w6.frozen? ⟨w4.heap.size,j,none⟩=false∧w4.heap.size<w6.heap.size∧Hid (kF w4 (w6.setCell ⟨w4.heap.size,j,none⟩ (.string X[j])) rb w4.heap.size X.length (X.take (j+1)) ((X.drop (j+1)).flatMap Rc.aC++rest) false)):=by
        refine rD.mono ?_
        rintro e w6 ⟨rfl,q1,q2⟩
        have h5:=hS.read q2 q1
        obtain⟨y1,y2,y3⟩:=h5.cells Uj rJ
        rw[ON.out]
        exact⟨rfl,y1,y2,y3,h5.set Uj rJ _⟩
       generalize X[j]=xj at ZU
       have b1:(0:Int)≤(j:Int):=by omega
       have b2:(j:Int)<(X.length:Int):=by omega
       clear rD hS ON Uj
       go_wp2_with (go_at_call 81;refine ZU.out.mono ?_;rintro e w6 ⟨rfl,y1,y2,y3,H6⟩)
       go_roundw
       case rel=>exact⟨j+1,rJ,by go_num,H6.out⟩
       case measure=>simp[intOf];omega
     · have e:j=X.length:=by omega
       have HE:Hid (AN w wr rb lb is.length F rest∧wr.ownsRow w.heap.size 9 1 (.slice (some ⟨w4.heap.size,0,none⟩) X.length X.length) X.length (strCells X)):=by
        rw[e,List.take_length,List.drop_length]at hS
        exact⟨ZY.out.read hS.kb hS.rd,aG (hS.all rfl (by omega)) ZN.out⟩
       obtain⟨y1,y2,y3,y4⟩:=HE.out.1.cells hFk aE
       have y5:=y3 (k*2)
       have y6:=y3 (k*2+1)
       have HX:Hid (AN w ((wr.setCell ⟨lb,k*2,none⟩ (.string pd)).setCell ⟨lb,k*2+1,none⟩ (.slice (some ⟨w4.heap.size,0,none⟩) X.length X.length)) rb lb is.length (F++[⟨pd,X,.slice (some ⟨w4.heap.size,0,none⟩) X.length X.length⟩]) rest):=HE.out.1.step hFk aE ⟨pd,X,.slice (some ⟨w4.heap.size,0,none⟩) X.length X.length⟩ HE.out.2
       have HD9:Hid ((F++[(⟨pd,X,.slice (some ⟨w4.heap.size,0,none⟩) X.length X.length⟩:FI)]).map (fun f=>(f.pred,f.args))=(is.take (k+1)).map be∧(F++[(⟨pd,X,.slice (some ⟨w4.heap.size,0,none⟩) X.length X.length⟩:FI)]).length=k+1):=by
        refine⟨?_,by rw[List.length_append,hFk];rfl⟩
        rw[List.map_append,HFD.out,fS.out]
        rfl
       have b1:(0:Int)≤(k:Int):=by omega
       have b2:(k:Int)<(is.length:Int):=by omega
       clear hS y3 HE
       go_wp2_with fail
       go_roundw
       case rel=>exact⟨k+1,_,aE,by go_num,HD9.out.2,HD9.out.1,by rw[HRE.out];exact HX.out⟩
       case measure=>simp[intOf];omega
  · have e:k=is.length:=by omega
    have HE:Hid (bM wA (some ⟨lb,0,none⟩) is.length F∧fI F is∧(∀f,f∈F→wA.ownsRow w.heap.size 9 1 f.av f.args.length (strCells f.args))∧w.heap.size≤lb∧bC wA rb t false∧Kb [rb] w wA):=by
     rw[e,List.take_length]at XT
     have hr:=hF.rd
     rw[e,List.drop_length]at hr
     exact⟨hF.all (by omega) (by omega),⟨XT,Yz.out⟩,hF.each,hF.ge,hr,hF.kb⟩
    clear hF XT
    go_wp2_with fail
    go_ret
    exact⟨_,F,rfl,HE.out⟩
end
/- record.Facts of a content; Engine.Log. -/
section
open Go.RowKit Go.Maps
theorem bM.kept{w w':World}{fd:Option Addr}{fc:Nat}{F:List FI}(h:bM w fd fc F){rb:Nat}{l:List UInt8}{f:Bool}(hr:bC w rb l f)(hk:Kb [rb] w w'):bM w' fd fc F:=by
 unfold bC at hr
 refine⟨hk.dV h.row (fun b cur fz hb e=> ?_),fun g hg=>hk.dV (h.each g hg) (fun b cur fz hb e=> ?_)⟩<;>
 · simp at hb
   subst hb
   rw[hr]at e
   simp at e
theorem Dt(w:World)(ci gi:List Nat)(hc:ci.length≤30)(hg:gi.length≤30)(Qb:∀i,i∈ci→i<36)(Qd:∀i,i∈gi→i<36)(hl:(Rc.uZ ci gi).length≤1000000000)(qd:Option Addr)(qc:Nat)(Q:List Pd.Pr)(hq:ly w qd qc Q):
 Calls Tryz.prog 84 #[.string ⟨(Rc.uZ ci gi).toArray⟩,.slice qd Q.length qc] w fun e w'=>∃cb gb cm gone,e=.returned (.tuple #[.slice (some ⟨cb,0,none⟩) ci.length ci.length,.slice (some ⟨gb,0,none⟩) gi.length gi.length,.bool true])∧bM w' (some ⟨cb,0,none⟩) ci.length cm∧fI cm ci∧bM w' (some ⟨gb,0,none⟩) gi.length gone∧fI gone gi∧Below w.heap.size w w':=by
 have e0:Rc.uZ ci gi=Rc.aQ ci.length++(ci.flatMap Rc.fD++(Rc.aQ gi.length++(gi.flatMap Rc.fD++[]))):=by simp[Rc.uZ]
 have tJ:(Rc.aQ gi.length++(gi.flatMap Rc.fD++[])).length≤1000000000:=by
  rw[e0]at hl
  simp only[List.length_append]at hl ⊢
  omega
 rw[e0]at hl ⊢
 have Cu:Hid (Calls Tryz.prog 80 #[.string ⟨(Rc.aQ ci.length++(ci.flatMap Rc.fD++(Rc.aQ gi.length++(gi.flatMap Rc.fD++[])))).toArray⟩] w fun e w1=>e=.returned (.pointer (some ⟨w.heap.size,0,none⟩))∧Hid (bC w1 w.heap.size (Rc.aQ ci.length++(ci.flatMap Rc.fD++(Rc.aQ gi.length++(gi.flatMap Rc.fD++[])))) false∧ly w1 qd qc Q∧Below w.heap.size w w1)):=by
  refine(iY w _).mono ?_
  rintro e w1 ⟨rfl,q1,q2⟩
  exact⟨rfl,q1,⟨ae hq.1 q2,hq.2⟩,q2⟩
 have HR1:Hid (∀w1,bC w1 w.heap.size (Rc.aQ ci.length++(ci.flatMap Rc.fD++(Rc.aQ gi.length++(gi.flatMap Rc.fD++[])))) false∧ly w1 qd qc Q∧Below w.heap.size w w1→Calls Tryz.prog 145 #[.pointer (some ⟨w.heap.size,0,none⟩),.slice qd Q.length qc] w1 fun e w2=>∃cb,e=.returned (.slice (some ⟨cb,0,none⟩) ci.length ci.length)∧Hid (∃cm,bM w2 (some ⟨cb,0,none⟩) ci.length cm∧fI cm ci∧bC w2 w.heap.size (Rc.aQ gi.length++(gi.flatMap Rc.fD++[])) false∧ly w2 qd qc Q∧Below w.heap.size w w2)):=by
  rintro w1 ⟨h1,h2,h3⟩
  refine(pP w1 w.heap.size ci _ h1 hl hc Qb qd qc Q h2).mono ?_
  rintro e w2 ⟨lb,F,rfl,q1,q2,q3,q4,q5,q6⟩
  exact⟨lb,rfl,F,q1,q2,q5,h2.kept h1 q6,q6.aJ h3 h3.size (by simp)⟩
 have Lk:Hid (∀w2 cb cm,bM w2 (some ⟨cb,0,none⟩) ci.length cm∧fI cm ci∧bC w2 w.heap.size (Rc.aQ gi.length++(gi.flatMap Rc.fD++[])) false∧ly w2 qd qc Q∧Below w.heap.size w w2→Calls Tryz.prog 145 #[.pointer (some ⟨w.heap.size,0,none⟩),.slice qd Q.length qc] w2 fun e w3=>∃gb,e=.returned (.slice (some ⟨gb,0,none⟩) gi.length gi.length)∧Hid (bC w3 w.heap.size [] false∧∃gone,bM w3 (some ⟨cb,0,none⟩) ci.length cm∧fI cm ci∧bM w3 (some ⟨gb,0,none⟩) gi.length gone∧fI gone gi∧Below w.heap.size w w3)):=by
  rintro w2 cb cm ⟨h1,h2,h3,h4,h5⟩
  refine(pP w2 w.heap.size gi [] h3 tJ hg Qd qd qc Q h4).mono ?_
  rintro e w3 ⟨lb,F,rfl,q1,q2,q3,q4,q5,q6⟩
  exact⟨lb,rfl,q5,F,h1.kept h3 q6,h2,q1,q2,q6.aJ h5 h5.size (by simp)⟩
 generalize (⟨(Rc.aQ ci.length++(ci.flatMap Rc.fD++(Rc.aQ gi.length++(gi.flatMap Rc.fD++[])))).toArray⟩:ByteArray)=S at*
 clear hq hl tJ e0
 go_enter Tryz.func84,Tryz.ntmps84
 go_upto_region 4 with(first | (go_at_call 80;refine Cu.out.mono ?_;rintro e w1 ⟨rfl,H1⟩) | (go_at_call 145;first | (refine(HR1.out w1 H1.out).mono ?_;rintro e w2 ⟨cb,rfl,H2⟩;obtain⟨cm,H2⟩:=H2.out;have RX:Hid _:=H2;clear H1 H2) | (refine(Lk.out w2 cb cm RX.out).mono ?_;rintro e w3 ⟨gb,rfl,H3⟩)))
 have zo:Hid (Calls Tryz.prog 142 #[.pointer (some ⟨w.heap.size,0,none⟩)] w3 fun e w'=>e=.returned (.bool false)∧w'=w3):=fJ w3 _ _ _ H3.out.1
 have HRS:Hid (Calls Tryz.prog 144 #[.pointer (some ⟨w.heap.size,0,none⟩)] w3 fun e w'=>e=.returned (.string ⟨#[]⟩)∧w'=w3):=yv w3 _ _ _ H3.out.1
 clear Cu HR1 Lk RX
 go_wp2_with (first | (go_at_call 142;refine zo.out.mono ?_;rintro e w4 ⟨rfl,rfl⟩) | (go_at_call 144;refine HRS.out.mono ?_;rintro e w4 ⟨rfl,rfl⟩))
 go_ret3
 obtain⟨_,gone,q⟩:=H3.out
 exact⟨cb,gb,cm,gone,rfl,q⟩
theorem vU{w:World}{eg:Nat}{hd L:List UInt8}{lv:Value}(h:eG w eg hd (Rc.bA L) lv):
 Calls Tryz.prog 29 #[.pointer (some ⟨eg,0,none⟩)] w fun e w'=>e=.returned (.string ⟨L.toArray⟩)∧w'=w:=by
 obtain⟨pl,rv,gm,hm,eb⟩:=h.at_
 obtain⟨_,_,_,_,_,c36⟩:=kt eb h.K8
 have Fq:(convert 63 9 lv).run Tryz.prog w=.ok (.string ⟨L.toArray⟩) w:=by
  obtain⟨h1,⟨e1,e2⟩ | ⟨g,cap,cur,e1,h2,h3,h4,h5,h6,h7⟩⟩:=h.log
  · have:L=[]:=by
     rw[Rc.bB]at e2
     exact List.length_eq_zero_iff.1 e2
    subst this
    rw[e1]
    exact run_convert_bytes_nil w 63 5 Tryz.underlying63 Tryz.underlying5 _ _ 9 Tryz.underlying9
  · rw[e1,Rc.bB]
    refine run_convert_bytes_back w 63 9 5 ⟨g,0,none⟩ _ L Tryz.underlying63 Tryz.underlying5 Tryz.underlying9 ?_
    intro j hj
    rw[Addr.add_lit,cell_of_row _ _ _ _ _ _ h3]
    have h9:(cur.toList.take ((Rc.bA L).length*1))[j]?=some (.int .u8 ((L[j]).toNat:Int)):=by
     rw[h7,Rc.bA,List.getElem?_map,List.getElem?_eq_getElem hj]
     rfl
    rw[List.getElem?_take]at h9
    split at h9
    · simpa using h9
    · cases h9
 obtain⟨ld,ln,lc,e9⟩:∃ld ln lc,lv=.slice ld ln lc:=by
  obtain⟨xd,xc,e⟩:=ah h.log
  exact⟨_,_,_,e⟩
 subst e9
 have hl:=lt_of_heap eb
 clear eb h
 go_enter Tryz.func29,Tryz.ntmps29
 go_wp2_with fail
 go_ret
 exact⟨rfl,rfl⟩
end
/- Engine.redo. -/
section
open Go.RowKit Go.Maps
theorem eG.load{w:World}{eg:Nat}{hd:List UInt8}{lg:List Value}{lv:Value}(h:eG w eg hd lg lv):w.rangeAt eg 4 (Rc.bA hd)∧(Rc.bA hd).length=32∧eg<w.heap.size:=by
 obtain⟨pl,rv,gm,hm,eb⟩:=h.at_
 exact⟨(kt eb h.K8).2.2.2.2.1,by rw[Rc.bB,h.K8],lt_of_heap eb⟩
theorem JZ{K:Nat→Int}{w:World}{eg:Nat}{hd:List UInt8}{lg:List Value}{lv:Value}(hH:eG w eg hd lg lv)(hK:Dg.ui w K){l:List UInt8}(hl:l.length≤1000000000)(hf:Rd.jJ K hd l=(⟨#[]⟩,0,false)):
 Calls Tryz.prog 46 #[.pointer (some ⟨eg,0,none⟩),.string ⟨l.toArray⟩] w fun e w'=>e=.returned (.tuple #[.int .i64 0,.bool false])∧Below w.heap.size w w':=by
 obtain⟨hr,Ff,U0⟩:=hH.load
 have M2:=Ac K w l hd hK hH.K8 hl
 rw[hf]at M2
 have HFI:Hid (Calls Tryz.prog 83 #[.string ⟨l.toArray⟩,.agg (Rc.bA hd).toArray] w fun e w'=>e=.returned (.tuple #[.string ⟨#[]⟩,.int .i64 0,.bool false])∧Hid (Below w.heap.size w w')):=M2.mono (fun e w' ⟨a,b⟩=>⟨a,b⟩)
 have zi:(Tryz.prog.info? 105).map (·.size)=some (Rc.bA hd).length:=by
  rw[Ff]
  kernel_rfl
 have hu:=Tryz.underlying105
 generalize Rc.bA hd=HD at*
 generalize (⟨l.toArray⟩:ByteArray)=S at*
 clear M2 hf hH hK
 go_enter Tryz.func46,Tryz.ntmps46
 go_wp2_with (first | (refine wpList_load_mid rfl _ _ rfl eg 4 rfl _ _ hr hu rfl zi ?_) | (go_at_call 83;refine HFI.out.mono ?_;rintro e w1 ⟨rfl,H1⟩))
 go_ret2
 exact⟨rfl,H1.out⟩
theorem nP.rules{w:World}{B eg:Nat}{kl:List Ax.ay}{gv:Nat→Bool}{n:Nat}(hE:nP w B eg kl gv n):∃pl rd rc ll,w.cell? ⟨eg,0,none⟩=some (.string pl)∧w.cell? ⟨eg,1,none⟩=some (.slice rd (List.length ll) rc)∧aI w rd rc ll∧(ll.map MR.aw).map Ax.kX=Ax.gR kl∧ll.length≤8∧ll≠[]:=by
 obtain⟨pl,rd,rc,ll,gm,G,hm,T,s,hd0,lv0,ln,lx,eb,dN,SI,_,_,_,_,_,Yc,_⟩:=hE.at_
 obtain⟨x0,x1,_⟩:=kt eb Yc
 obtain⟨X8,_,zK⟩:=iN dN SI
 have cA:ll≠[]:=by
  rintro rfl
  simp[Ax.gR,Ax.lr]at SI
 exact⟨pl,rd,rc,ll,x0,x1,dN,SI,zK,cA⟩
def SA(K:Nat→Int)(w w':World)(B eg:Nat)(kl:List Ax.ay)(gv:Nat→Bool)(n:Nat)(hd:List UInt8)(lg:List Value)(ci gi:List Nat):Prop:=
 nP w' B eg kl (ax (ax gv ci true) gi false) (n+1)∧Below B w w'∧∃ql,eG w' eg (dO K hd ⟨(Rc.uZ ci gi).toArray⟩) (lg++Rc.bA (Rc.aC ⟨(Rc.uZ ci gi).toArray⟩++dO K hd ⟨(Rc.uZ ci gi).toArray⟩)) ql
theorem F0{K:Nat→Int}{w:World}{B eg:Nat}{kl:List Ax.ay}{gv:Nat→Bool}{n:Nat}{hd:List UInt8}{lg:List Value}{lv:Value}(hE:nP w B eg kl gv n)(hn:n≤2000000)(hB:B≤w.heap.size)(hH:eG w eg hd lg lv)(hK:Dg.ui w K)(hU:eY w){l:List UInt8}(hl:l.length≤1000000000){ci gi:List Nat}(hc:ci.length≤30)(hg:gi.length≤30)(Qb:∀i,i∈ci→i<36)(Qd:∀i,i∈gi→i<36)(LN:(Rc.uZ ci gi).length≤1000000000){sz:Nat}(hf:Rd.jJ K hd l=(⟨(Rc.uZ ci gi).toArray⟩,sz,true)):
 Calls Tryz.prog 46 #[.pointer (some ⟨eg,0,none⟩),.string ⟨l.toArray⟩] w fun e w'=>e=.returned (.tuple #[.int .i64 (sz:Nat),.bool true])∧SA K w w' B eg kl gv n hd lg ci gi:=by
 have HN:Hid (n≤2000000):=hn
 clear hn
 obtain⟨hr,Ff,U0⟩:=hH.load
 have M2:=Ac K w l hd hK hH.K8 hl
 rw[hf]at M2
 obtain⟨pl,rd,rc,ll,x0,x1,dN,SI,zK,cA⟩:=hE.rules
 have HFI:Hid (Calls Tryz.prog 83 #[.string ⟨l.toArray⟩,.agg (Rc.bA hd).toArray] w fun e w1=>e=.returned (.tuple #[.string ⟨(Rc.uZ ci gi).toArray⟩,.int .i64 (sz:Nat),.bool true])∧w1.cell? ⟨eg,0,none⟩=some (.string pl)∧w1.cell? ⟨eg,1,none⟩=some (.slice rd ll.length rc)∧eg<w1.heap.size∧Hid (Below w.heap.size w w1)):=by
  refine M2.mono ?_
  rintro e w1 ⟨rfl,hb⟩
  exact⟨rfl,bx hb x0,bx hb x1,Nat.lt_of_lt_of_le U0 hb.size,hb⟩
 have tq:Hid (∀w1,Below w.heap.size w w1→Calls Tryz.prog 59 #[.agg #[.string pl,.slice rd ll.length rc]] w1 fun e w2=>∃qd qc,e=.returned (.slice qd (List.length gQ) qc)∧Hid (ly w2 qd qc gQ∧Below w.heap.size w w2)):=by
  intro w1 a8
  refine(mc w1 pl rd rc ll (dN.below a8) (by omega) (nH SI) cA).mono ?_
  rintro e w5 ⟨qd,qc,Q,rfl,q1,q2,q3⟩
  have hQ:Q=gQ:=Oc q3.out.1 (fun p=>(q3.out.2 p).trans (dX SI p))
  subst hQ
  exact⟨qd,qc,rfl,⟨aG q1 (Nat.zero_le _),by show 3≤1000;omega,fun p=>(q3.out.2 p).trans (dX SI p)⟩,a8.trans (q2.mono a8.size)⟩
 have HFC:Hid (∀w2 qd qc,ly w2 qd qc gQ∧Below w.heap.size w w2→Calls Tryz.prog 84 #[.string ⟨(Rc.uZ ci gi).toArray⟩,.slice qd (List.length gQ) qc] w2 fun e w3=>∃cb gb,e=.returned (.tuple #[.slice (some ⟨cb,0,none⟩) ci.length ci.length,.slice (some ⟨gb,0,none⟩) gi.length gi.length,.bool true])∧Hid (∃cm gone,bM w3 (some ⟨cb,0,none⟩) ci.length cm∧fI cm ci∧bM w3 (some ⟨gb,0,none⟩) gi.length gone∧fI gone gi∧Below w.heap.size w w3)):=by
  rintro w2 qd qc ⟨h1,h2⟩
  refine(Dt w2 ci gi hc hg Qb Qd LN qd qc gQ h1).mono ?_
  rintro e w3 ⟨cb,gb,cm,gone,rfl,q1,q2,q3,q4,q5⟩
  exact⟨cb,gb,rfl,cm,gone,q1,q2,q3,q4,h2.trans (q5.mono h2.size)⟩
 have Ij:Hid (∀w3 cb gb,(∃cm gone,bM w3 (some ⟨cb,0,none⟩) ci.length cm∧fI cm ci∧bM w3 (some ⟨gb,0,none⟩) gi.length gone∧fI gone gi∧Below w.heap.size w w3)→Calls Tryz.prog 38 #[.pointer (some ⟨eg,0,none⟩),.slice (some ⟨cb,0,none⟩) ci.length ci.length,.slice (some ⟨gb,0,none⟩) gi.length gi.length] w3 fun e w4=>e=.returned (.int .i64 0)∧Hid (SA K w w4 B eg kl gv n hd lg ci gi)):=by
  rintro w3 cb gb ⟨cm,gone,h1,h2,h3,h4,h5⟩
  have e1:=h2.len
  have e2:=h4.len
  rw[e1]at h1
  rw[e2]at h3
  have h9:=Ny K w3 B eg kl gv n (hE.below h5) HN.out (hK.below h5) (Utf8Tabs_below hU h5) (some ⟨cb,0,none⟩) cm.length cm (some ⟨gb,0,none⟩) gone.length gone h1 h3 ci gi h2 h4 (by omega) (by omega)
  rw[←e1,←e2]at h9
  refine h9.mono ?_
  rintro e w4 ⟨rfl,q1,q2,q3,q4⟩
  obtain⟨ql,k1,_⟩:=q4 hd lg lv (hH.below h5)
  rw[sf h2 h4]at k1
  exact⟨rfl,q1,(h5.mono hB).trans q3,ql,k1⟩
 have zi:(Tryz.prog.info? 105).map (·.size)=some (Rc.bA hd).length:=by
  rw[Ff]
  kernel_rfl
 have hu:=Tryz.underlying105
 generalize Rc.bA hd=HD at*
 generalize (⟨l.toArray⟩:ByteArray)=S at*
 generalize (⟨(Rc.uZ ci gi).toArray⟩:ByteArray)=CT at HFI HFC
 clear M2 hf hH hK hU hE dN SI x0 x1 zK cA hc hg Qb Qd LN hl hB HN
 go_enter Tryz.func46,Tryz.ntmps46
 go_upto_region 2 with(first | (refine wpList_load_mid rfl _ _ rfl eg 4 rfl _ _ hr hu rfl zi ?_) | (go_at_call 83;refine HFI.out.mono ?_;rintro e w1 ⟨rfl,y0,y1,y2,H1⟩))
 clear hr zi
 go_upto_region 5 with(first | (go_at_call 59;refine(tq.out w1 H1.out).mono ?_;rintro e w2 ⟨qd,qc,rfl,H2⟩) | (go_at_call 84;refine(HFC.out w2 qd qc H2.out).mono ?_;rintro e w3 ⟨cb,gb,rfl,H3⟩))
 go_wp2_with (go_at_call 38;refine(Ij.out w3 cb gb H3.out).mono ?_;rintro e w4 ⟨rfl,H4⟩)
 go_ret2
 exact⟨rfl,H4.out⟩
end
/- Two engines that go on beside one another. -/
section
open Go.RowKit Go.Maps
theorem eG.same{w:World}{eg:Nat}{hd C8:List UInt8}{lg lg':List Value}{lv ql:Value}(h:eG w eg hd lg lv)(k:eG w eg C8 lg' ql):lv=ql:=by
 obtain⟨pl,rv,gm,hm,e⟩:=h.at_
 obtain⟨pl',rv',gm',hm',e'⟩:=k.at_
 rw[e]at e'
 simp only[Option.some.injEq,Obj.cells.injEq,and_true]at e'
 exact(oS h.K8 k.K8 e').2
end
/- Resumed, walked. -/
section
open Go.RowKit Go.Maps
def kE(gv:Nat→Bool)(l:List (List Int×List Int)):Nat→Bool:=l.foldl gO gv
theorem vZ(gv:Nat→Bool)(l:List (List Int×List Int))(x:List Int×List Int):kE gv (l++[x])=gO (kE gv l) x:=by simp[kE]
end
/- Replay: of an export and a log. -/
section
open Go.RowKit Go.Maps
namespace Rp
def ct(x:List Int×List Int):ByteArray:=⟨(Rc.uZ (idxs x.1) (idxs x.2)).toArray⟩
noncomputable def p5(K:Nat→Int)(hd:List UInt8)(l:List (List Int×List Int)):List UInt8:=l.foldl (fun h x=>dO K h (ct x)) hd
noncomputable def kr(K:Nat→Int)(hd:List UInt8)(x:List Int×List Int):List UInt8:=Rc.aC (ct x)++dO K hd (ct x)
noncomputable def cB(K:Nat→Int):List UInt8→List (List Int×List Int)→List UInt8
 | _,[]=>[]
 | hd,x::l=>kr K hd x++cB K (dO K hd (ct x)) l
theorem si(K:Nat→Int):∀(l m:List (List Int×List Int)) (hd:List UInt8),cB K hd (l++m)=cB K hd l++cB K (p5 K hd l) m
 | [],_,_=>rfl
 | x::l,m,hd=>by
  show kr K hd x++cB K _ (l++m)=(kr K hd x++cB K _ l)++_
  rw[si K l m,List.append_assoc]
  rfl
theorem pj(K:Nat→Int)(l:List (List Int×List Int))(x:List Int×List Int)(hd:List UInt8):cB K hd (l++[x])=cB K hd l++kr K (p5 K hd l) x:=by
 rw[si]
 simp[cB]
theorem Ej(K:Nat→Int)(l:List (List Int×List Int))(x:List Int×List Int)(hd:List UInt8):p5 K hd (l++[x])=dO K (p5 K hd l) (ct x):=by simp[p5]
theorem YI{i:Nat}(hi:i<36):(Rc.fD i).length≤10:=C6 (f:=⟨(be i).1,(be i).2,.bool false⟩) hi rfl rfl
theorem Ht{l:List Nat}(h:∀i,i∈l→i<36)(hl:l.length≤30):(Rc.aQ l.length++l.flatMap Rc.fD).length≤301:=by
 have h1:=Rc.gU Rc.fD 10 l (fun i hi=>YI (h i hi))
 have h2:=Hb (n:=l.length) (by omega)
 rw[List.length_append,h2]
 omega
theorem OX(x:List Int×List Int):(Rc.uZ (idxs x.1) (idxs x.2)).length≤602:=by
 have h1:=Ht (ny x.1) (oP x.1)
 have h2:=Ht (ny x.2) (oP x.2)
 unfold Rc.uZ
 rw[List.length_append]
 omega
theorem vV(K:Nat→Int)(hd:List UInt8)(x:List Int×List Int):(kr K hd x).length≤640∧33≤(kr K hd x).length:=by
 have h1:=OX x
 have h2:(dO K hd (ct x)).length=32:=Dg.mo _ _
 have h3:(Rc.aQ (ct x).size).length≤2:=Rc.mn 2 _ (by show(Rc.uZ (idxs x.1) (idxs x.2)).length<_;omega) (by decide)
 have h5:=Rd.wF (ct x).size
 have h4:(ct x).data.toList.length=(Rc.uZ (idxs x.1) (idxs x.2)).length:=by simp[ct]
 unfold kr Rc.aC
 simp only[List.length_append]
 omega
theorem vH(K:Nat→Int):∀(l:List (List Int×List Int)) (hd:List UInt8),(cB K hd l).length≤640*l.length
 | [],_=>by simp[cB]
 | x::l,hd=>by
  have h1:=(vV K hd x).1
  have h2:=vH K l (dO K hd (ct x))
  show(kr K hd x++cB K _ l).length≤_
  rw[List.length_append,List.length_cons]
  omega
end Rp
structure xi(K:Nat→Int)(w wr:World)(eg:Nat)(kl:List Ax.ay)(gv:Nat→Bool)(hd:List UInt8)(l:List (List Int×List Int)):Prop where
 KW:nP wr w.heap.size eg kl (kE gv l) l.length
 hd:∃lv,eG wr eg (Rp.p5 K hd l) (Rc.bA (Rp.cB K hd l)) lv
 aZ:Below w.heap.size w wr
theorem xi.below{K:Nat→Int}{w wr w':World}{eg:Nat}{kl:List Ax.ay}{gv:Nat→Bool}{hd:List UInt8}{l:List (List Int×List Int)}(h:xi K w wr eg kl gv hd l)(hb:Below wr.heap.size wr w'):xi K w w' eg kl gv hd l:=by
 obtain⟨lv,h1⟩:=h.hd
 exact⟨h.KW.below hb,⟨lv,h1.below hb⟩,h.aZ.trans (hb.mono h.aZ.size)⟩
theorem xi.whole{K:Nat→Int}{w wr:World}{eg:Nat}{kl:List Ax.ay}{gv:Nat→Bool}{hd:List UInt8}{l:List (List Int×List Int)}(h:xi K w wr eg kl gv hd l)(hl:l.length≤2000000)(hK:Dg.ui wr K)(hU:eY wr)(x:List Int×List Int)(t:List UInt8)(ht:(Rp.kr K (Rp.p5 K hd l) x++t).length≤1000000000):
 Calls Tryz.prog 46 #[.pointer (some ⟨eg,0,none⟩),.string ⟨(Rp.kr K (Rp.p5 K hd l) x++t).toArray⟩] wr fun e w'=>e=.returned (.tuple #[.int .i64 ((Rp.kr K (Rp.p5 K hd l) x).length:Nat),.bool true])∧xi K w w' eg kl gv hd (l++[x]):=by
 obtain⟨lv,h1⟩:=h.hd
 have hc:=Rp.OX x
 refine(F0 h.KW hl h.aZ.size h1 hK hU ht (oP x.1) (oP x.2) (ny x.1) (ny x.2) (by omega) (Rd.FP K (Rp.p5 K hd l) (ct:=Rp.ct x) (by show(Rc.uZ (idxs x.1) (idxs x.2)).length<_;omega) t)).mono ?_
 rintro e w' ⟨rfl,q1,q2,ql,q3⟩
 refine⟨rfl,⟨?_,⟨ql, ?_⟩,h.aZ.trans q2⟩⟩
 · rw[vZ,List.length_append]
   exact q1
 · rw[Rp.Ej,Rp.pj,Rc.eU]
   exact q3
theorem xi.Qg{K:Nat→Int}{w wr:World}{eg:Nat}{kl:List Ax.ay}{gv:Nat→Bool}{hd:List UInt8}{l:List (List Int×List Int)}(h:xi K w wr eg kl gv hd l)(hK:Dg.ui wr K)(x:List Int×List Int){t r:List UInt8}(hr:r≠[])(e:t++r=Rp.kr K (Rp.p5 K hd l) x):
 Calls Tryz.prog 46 #[.pointer (some ⟨eg,0,none⟩),.string ⟨t.toArray⟩] wr fun e w'=>e=.returned (.tuple #[.int .i64 0,.bool false])∧xi K w w' eg kl gv hd l:=by
 obtain⟨lv,h1⟩:=h.hd
 have hc:=Rp.OX x
 have hz:=(Rp.vV K (Rp.p5 K hd l) x).1
 rw[←e,List.length_append]at hz
 refine(JZ h1 hK (by omega) (Rd.EF K (Rp.p5 K hd l) (ct:=Rp.ct x) (by show(Rc.uZ (idxs x.1) (idxs x.2)).length<_;omega) hr e)).mono ?_
 rintro e w' ⟨rfl,hb⟩
 exact⟨rfl,h.below hb⟩
end
end Go.Proofs.YtdmicblafmhflaaGreatDoor
