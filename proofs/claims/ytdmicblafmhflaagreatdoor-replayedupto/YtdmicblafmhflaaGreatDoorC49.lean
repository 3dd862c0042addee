/- record.readFacts, walked. -/
import Derived.Test.YtdmicblafmhflaaGreatDoorC48
import Derived.Laws.BytesArg
import Derived.Test.YtdmicblafmhflaaGreatDoorC42
set_option linter.unusedSimpArgs false
set_option linter.unusedVariables false
set_option maxHeartbeats 4000000
set_option maxRecDepth 100000
namespace Go.Proofs.YtdmicblafmhflaaGreatDoor
section
open Go.RowKit Go.Maps
theorem lC.kept{w w':World}{qd:Option Addr}{qc:Nat}{Q:List Pd.Pr}(h:lC w qd qc Q){rb:Nat}{l:List UInt8}{f:Bool}(hr:bC w rb l f)(hk:Kb [rb] w w'):lC w' qd qc Q:=by
 refine⟨hk.dQ h.1 (fun b cur fz hb e=> ?_),h.2⟩
 simp at hb
 subst hb
 unfold bC at hr
 rw[hr]at e
 simp at e
theorem Ib{is:List Nat}{k:Nat}(hk:k<is.length)(t:List UInt8):(is.drop k).flatMap Rc.fD++t=Rc.aC (be is[k]).1++((be is[k]).2.flatMap Rc.aC++((is.drop (k+1)).flatMap Rc.fD++t)):=by
 rw[List.drop_eq_getElem_cons hk,List.flatMap_cons]
 simp[Rc.fD]
theorem ko{α:Type}(l:List α){k:Nat}(hk:k<l.length):l.take (k+1)=l.take k++[l[k]]:=by rw[List.take_add_one,List.getElem?_eq_getElem hk];rfl
theorem KF{X:List ByteArray}{k:Nat}(hk:k<X.length)(t:List UInt8):(X.drop k).flatMap Rc.aC++t=Rc.aC X[k]++((X.drop (k+1)).flatMap Rc.aC++t):=by
 rw[List.drop_eq_getElem_cons hk,List.flatMap_cons,List.append_assoc]
theorem pR(w:World)(rb:Nat)(is:List Nat)(t:List UInt8)(h:bC w rb (Rc.aQ is.length++(is.flatMap Rc.fD++t)) false)(hl:(Rc.aQ is.length++(is.flatMap Rc.fD++t)).length≤1000000000)(hn:is.length≤30)(K7:∀i,i∈is→i<36)(qd:Option Addr)(qc:Nat)(Q:List Pd.Pr)(hq:lC w qd qc Q):
 Calls Tryz.prog 145 #[.pointer (some ⟨rb,0,none⟩),.slice qd Q.length qc] w fun e w'=>∃lb F,e=.returned (.slice (some ⟨lb,0,none⟩) is.length is.length)∧bM w' (some ⟨lb,0,none⟩) is.length F∧fM F is∧(∀f,f∈F→w'.ownsRow w.heap.size 9 1 f.av f.args.length (strCells f.args))∧w.heap.size≤lb∧bC w' rb t false∧Kb [rb] w w':=by
 obtain⟨i0,jy,ew,dZ,dX⟩:=info_parts Tryz.ou
 obtain⟨s0,E4,TJ,YU,Xq⟩:=info_parts Tryz.o5
 have ga:=eT w rb _ false 64 h hl
 rw[Rd.eO (by omega) (by omega)]at ga
 have tS:Hid (∀W,Kb [rb] w W→lC W qd qc Q):=fun W hW=>hq.kept h hW
 have Ty:Hid (∀k,((is.drop k).flatMap Rc.fD++t).length≤1000000000):=by
  intro k
  have h1:is.flatMap Rc.fD=(is.take k).flatMap Rc.fD++(is.drop k).flatMap Rc.fD:=by rw[←List.flatMap_append,List.take_append_drop]
  rw[h1]at hl
  simp only[List.length_append]at hl ⊢
  omega
 have Bs:Hid (Calls Tryz.prog 139 #[.pointer (some ⟨rb,0,none⟩),.int .i64 64] w fun e w'=>e=.returned (.int .i64 (is.length:Nat))∧Hid (bC w' rb (is.flatMap Rc.fD++t) false∧Kb [rb] w w')):=ga.mono (fun e w' ⟨a,b⟩=>⟨a,b⟩)
 have Zj:Hid (∀i,i∈is→i<36):=K7
 have VK:Hid (Tryz.prog.info? 9=some s0∧s0.zero=some (.string ByteArray.empty)∧s0.size=1∧s0.bytes=16):=⟨E4,TJ,YU,Xq⟩
 clear ga h hl hq K7 E4 TJ YU Xq
 go_enter Tryz.func145,Tryz.ntmps145
 go_wp2_with (first | (go_at_call 139;refine Bs.out.mono ?_;rintro e w1 ⟨rfl,H1⟩) | (at_make;refine wpList_make_full _ rfl _ _ 37 rfl w1.heap.size 48 i0 _ 2 Tryz.underlying37 jy ew dZ .i64 .i64 is.length is.length is.length rfl rfl rfl rfl (by rw[dX];omega) (by unfold maxLen;omega) (Nat.le_refl _) ?_;intro w2 aR bR))
 have LU:Hid (zT w w2 rb w1.heap.size is.length [] ((is.drop 0).flatMap Rc.fD++t)):=by
  have a8:Below w1.heap.size w1 w2:=(Below.refl _ _).grown bR (Nat.le_refl _) (fun q hq=>by cases hq)
  refine⟨?_,(fun f hf=>by cases hf), ?_,H1.out.2.below a8,H1.out.2.size,Nat.zero_le _⟩
  · obtain⟨_,⟨e1,_⟩ | ⟨g',cap,cur,e1,_,e3,_,_,e6,e7⟩⟩:=aR
    · cases e1
    · simp only[Value.slice.injEq,Option.some.injEq,Addr.mk.injEq,and_true,true_and]at e1
      obtain⟨rfl,rfl⟩:=e1
      rw[List.take_of_length_le (by rw[Array.length_toList,e6];exact Nat.le_refl _)]at e7
      have e8:cur.toList=jF is.length:=by rw[e7];exact GA is.length
      rw[e3]
      have e9:cur=(dC []++jF (is.length-([]:List FI).length)).toArray:=by
       rw[List.length_nil,Nat.sub_zero,←e8]
       simp[dC]
      rw[←e9]
  · unfold bC
    rw[a8.block _ (lt_of_heap H1.out.1)]
    exact H1.out.1
 have HLB:Hid (w.heap.size≤w1.heap.size):=H1.out.2.size
 clear aR bR jy ew dZ dX H1 Bs
 generalize w1.heap.size=lb at*
 go_loopw [15] (fun i wr=>∃(k:Nat) (F:List FI),k≤is.length∧i=.int .i64 k∧F.length=k∧F.map (fun f=>(f.pred,f.args))=(is.take k).map be∧zT w wr rb lb is.length F ((is.drop k).flatMap Rc.fD++t)) (fun i _=>is.length-(intOf i).toNat)
 case atStart=>exact⟨0,[],Nat.zero_le _,rfl,rfl,rfl,LU.out⟩
 case round=>
  obtain⟨k,F,hk,rfl,hFk,XD,hF⟩:=hrel
  clear LU
  obtain⟨wA,rfl⟩:∃x,x=wr:=⟨_,rfl⟩
  by_cases aE:k<is.length
  · have OK:=Zj.out _ (List.getElem_mem aE)
    have fR:Hid ((is.take (k+1)).map be=(is.take k).map be++[((be is[k]).1,(be is[k]).2)]):=by
     have e1:(is.take (k+1)).map be=(is.take k).map be++[((be is[k]).1,(be is[k]).2)]:=by rw[ko is aE,List.map_append];rfl
     exact e1
    obtain⟨a1,a2,a3⟩:=JO _ OK
    have re:=iS wA rb _ _ hF.rd (Ty.out k)
    rw[Ib aE t,Rd.j7 (by omega)]at re
    simp only[Rd.si]at re
    have Gn:Hid (∀W,Kb [rb] w W→Calls Tryz.prog 206 #[.slice qd Q.length qc,.string (be is[k]).1] W fun e w'=>e=.returned (.int .i64 ((be is[k]).2.length:Nat))∧Hid (Below W.heap.size W w')):=by
     intro W hW
     have hp:=tS.out W hW
     rw[←hp.pl OK]
     exact(BL W 0 qd qc Q (be is[k]).1 hp.1 hp.2.1).mono (fun e w' ⟨a,b⟩=>⟨a,b⟩)
    have HRL:Hid (((be is[k]).2.flatMap Rc.aC++((is.drop (k+1)).flatMap Rc.fD++t)).length≤1000000000):=by
     have h9:=Ty.out k
     rw[Ib aE t,List.length_append]at h9
     exact Nat.le_trans (Nat.le_add_left _ _) h9
    have Wr:Hid (zT w wA rb lb is.length F ((is.drop k).flatMap Rc.fD++t)):=hF
    have HFD:Hid (F.map (fun f=>(f.pred,f.args))=(is.take k).map be):=XD
    generalize (be is[k]).1=pd at*
    generalize (be is[k]).2=X at*
    generalize hre:(is.drop (k+1)).flatMap Rc.fD++t=rest at*
    have HRE:Hid ((is.drop (k+1)).flatMap Rc.fD++t=rest):=hre
    clear hre
    have qf:Hid (Calls Tryz.prog 81 #[.pointer (some ⟨rb,0,none⟩)] wA fun e w2=>e=.returned (.string pd)∧Hid (zT w w2 rb lb is.length F (X.flatMap Rc.aC++rest))):=by
     refine re.mono ?_
     rintro e w5 ⟨rfl,q1,q2⟩
     exact⟨rfl,Wr.out.read q2 q1⟩
    have A3:Hid (∀x,x∈X→x.size<1000):=a3
    clear re hF XD a3 OK
    go_wp2_with (first | (go_at_call 81;refine qf.out.mono ?_;rintro e w3 ⟨rfl,H3⟩) | (go_at_call 206;refine(Gn.out w3 H3.out.kb).mono ?_;rintro e w4 ⟨rfl,H4⟩) | (at_make;refine wpList_make_full _ rfl _ _ 46 rfl w4.heap.size 9 s0 _ 1 Tryz.underlying46 VK.out.1 VK.out.2.1 VK.out.2.2.1 .i64 .i64 X.length X.length X.length rfl rfl rfl rfl (by rw[VK.out.2.2.2];omega) (by unfold maxLen;omega) (Nat.le_refl _) ?_;intro w5 Ad wE))
    have HFW:Hid (zT w w4 rb lb is.length F (X.flatMap Rc.aC++rest)):=H3.out.below H4.out
    have HS5:Hid (kK w4 w5 rb w4.heap.size X.length (X.take 0) ((X.drop 0).flatMap Rc.aC++rest) false):=by
     have a8:Below w4.heap.size w4 w5:=(Below.refl _ _).grown wE (Nat.le_refl _) (fun q hq=>by cases hq)
     refine⟨?_, ?_,Kb.bF a8 _,Nat.le_refl _,Nat.zero_le _⟩
     · obtain⟨_,⟨e1,_⟩ | ⟨g',cap,cur,e1,_,e3,_,_,e6,e7⟩⟩:=Ad
       · cases e1
       · simp only[Value.slice.injEq,Option.some.injEq,Addr.mk.injEq,and_true,true_and]at e1
         obtain⟨rfl,rfl⟩:=e1
         rw[List.take_of_length_le (by rw[Array.length_toList,e6];exact Nat.le_refl _),Nat.mul_one]at e7
         have e8:cur.toList=List.replicate X.length (Value.string ByteArray.empty):=by rw[e7];exact uc X.length
         rw[e3]
         have e9:cur=(strCells (X.take 0)++List.replicate (X.length-(X.take 0).length) (Value.string ByteArray.empty)).toArray:=by
          rw[List.take_zero,List.length_nil,Nat.sub_zero,←e8]
          simp[strCells]
         rw[←e9]
     · unfold bC
       rw[a8.block _ (lt_of_heap HFW.out.rd)]
       exact HFW.out.rd
    have HW4:Hid (w.heap.size≤w4.heap.size):=HFW.out.kb.size
    clear Ad wE H3 H4 qf Gn Wr
    go_loopw [26] (fun i wr=>∃(j:Nat),j≤X.length∧i=.int .i64 j∧kK w4 wr rb w4.heap.size X.length (X.take j) ((X.drop j).flatMap Rc.aC++rest) false) (fun i _=>X.length-(intOf i).toNat)
    case atStart=>exact⟨0,Nat.zero_le _,rfl,HS5.out⟩
    case round=>
     obtain⟨j,hj,rfl,hS⟩:=hrel
     clear HS5
     by_cases qS:j<X.length
     · have TM:(X.take j).length=j:=by rw[List.length_take];omega
       have re:=iS wr rb _ _ hS.rd (by
        have h9:=HRL.out
        have h1:X.flatMap Rc.aC=(X.take j).flatMap Rc.aC++(X.drop j).flatMap Rc.aC:=by rw[←List.flatMap_append,List.take_append_drop]
        rw[h1]at h9
        simp only[List.length_append]at h9 ⊢
        omega)
       rw[KF qS rest,Rd.j7 (by have:=A3.out _ (List.getElem_mem qS);omega)]at re
       simp only[Rd.si]at re
       have O5:Hid (X.take (j+1)=X.take j++[X[j]]):=ko X qS
       have HT2:Hid (Calls Tryz.prog 81 #[.pointer (some ⟨rb,0,none⟩)] wr fun e w6=>e=.returned (.string X[j])∧w6.cell? ⟨w4.heap.size,j,none⟩=some (.string ByteArray.empty)∧w6.frozen? ⟨w4.heap.size,j,none⟩=false∧w4.heap.size<w6.heap.size∧Hid (kK w4 (w6.setCell ⟨w4.heap.size,j,none⟩ (.string X[j])) rb w4.heap.size X.length (X.take (j+1)) ((X.drop (j+1)).flatMap Rc.aC++rest) false)):=by
        refine re.mono ?_
        rintro e w6 ⟨rfl,q1,q2⟩
        have h5:=hS.read q2 q1
        obtain⟨y1,y2,y3⟩:=h5.cells TM qS
        rw[O5.out]
        exact⟨rfl,y1,y2,y3,h5.set TM qS _⟩
       generalize X[j]=xj at HT2
       have b1:(0:Int)≤(j:Int):=by omega
       have b2:(j:Int)<(X.length:Int):=by omega
       clear re hS O5 TM
       go_wp2_with (go_at_call 81;refine HT2.out.mono ?_;rintro e w6 ⟨rfl,y1,y2,y3,H6⟩)
       go_roundw
       case rel=>exact⟨j+1,qS,by go_num,H6.out⟩
       case measure=>simp[intOf];omega
     · have e:j=X.length:=by omega
       have HE:Hid (zT w wr rb lb is.length F rest∧wr.ownsRow w.heap.size 9 1 (.slice (some ⟨w4.heap.size,0,none⟩) X.length X.length) X.length (strCells X)):=by
        rw[e,List.take_length,List.drop_length]at hS
        exact⟨HFW.out.read hS.kb hS.rd,aG (hS.all rfl (by omega)) HW4.out⟩
       obtain⟨y1,y2,y3,y4⟩:=HE.out.1.cells hFk aE
       have y5:=y3 (k*2)
       have y6:=y3 (k*2+1)
       have HX:Hid (zT w ((wr.setCell ⟨lb,k*2,none⟩ (.string pd)).setCell ⟨lb,k*2+1,none⟩ (.slice (some ⟨w4.heap.size,0,none⟩) X.length X.length)) rb lb is.length (F++[⟨pd,X,.slice (some ⟨w4.heap.size,0,none⟩) X.length X.length⟩]) rest):=HE.out.1.step hFk aE ⟨pd,X,.slice (some ⟨w4.heap.size,0,none⟩) X.length X.length⟩ HE.out.2
       have HD9:Hid ((F++[(⟨pd,X,.slice (some ⟨w4.heap.size,0,none⟩) X.length X.length⟩:FI)]).map (fun f=>(f.pred,f.args))=(is.take (k+1)).map be∧(F++[(⟨pd,X,.slice (some ⟨w4.heap.size,0,none⟩) X.length X.length⟩:FI)]).length=k+1):=by
        refine⟨?_,by rw[List.length_append,hFk];rfl⟩
        rw[List.map_append,HFD.out,fR.out]
        rfl
       have b1:(0:Int)≤(k:Int):=by omega
       have b2:(k:Int)<(is.length:Int):=by omega
       clear hS y3 HE
       go_wp2_with fail
       go_roundw
       case rel=>exact⟨k+1,_,aE,by go_num,HD9.out.2,HD9.out.1,by rw[HRE.out];exact HX.out⟩
       case measure=>simp[intOf];omega
  · have e:k=is.length:=by omega
    have HE:Hid (bM wA (some ⟨lb,0,none⟩) is.length F∧fM F is∧(∀f,f∈F→wA.ownsRow w.heap.size 9 1 f.av f.args.length (strCells f.args))∧w.heap.size≤lb∧bC wA rb t false∧Kb [rb] w wA):=by
     rw[e,List.take_length]at XD
     have hr:=hF.rd
     rw[e,List.drop_length]at hr
     exact⟨hF.all (by omega) (by omega),⟨XD,Zj.out⟩,hF.each,hF.ge,hr,hF.kb⟩
    clear hF XD
    go_wp2_with fail
    go_ret
    exact⟨_,F,rfl,HE.out⟩
end
/- record.Facts of a content; Engine.Log. -/
section
open Go.RowKit Go.Maps
theorem bM.kept{w w':World}{fd:Option Addr}{fc:Nat}{F:List FI}(h:bM w fd fc F){rb:Nat}{l:List UInt8}{f:Bool}(hr:bC w rb l f)(hk:Kb [rb] w w'):bM w' fd fc F:=by
 unfold bC at hr
 refine⟨hk.dQ h.row (fun b cur fz hb e=> ?_),fun g hg=>hk.dQ (h.each g hg) (fun b cur fz hb e=> ?_)⟩<;>
 · simp at hb
   subst hb
   rw[hr]at e
   simp at e
theorem Dn(w:World)(ci gi:List Nat)(hc:ci.length≤30)(hg:gi.length≤30)(QS:∀i,i∈ci→i<36)(RD:∀i,i∈gi→i<36)(hl:(Rc.u5 ci gi).length≤1000000000)(qd:Option Addr)(qc:Nat)(Q:List Pd.Pr)(hq:lC w qd qc Q):
 Calls Tryz.prog 84 #[.string ⟨(Rc.u5 ci gi).toArray⟩,.slice qd Q.length qc] w fun e w'=>∃cb gb cm gone,e=.returned (.tuple #[.slice (some ⟨cb,0,none⟩) ci.length ci.length,.slice (some ⟨gb,0,none⟩) gi.length gi.length,.bool true])∧bM w' (some ⟨cb,0,none⟩) ci.length cm∧fM cm ci∧bM w' (some ⟨gb,0,none⟩) gi.length gone∧fM gone gi∧Below w.heap.size w w':=by
 have e0:Rc.u5 ci gi=Rc.aQ ci.length++(ci.flatMap Rc.fD++(Rc.aQ gi.length++(gi.flatMap Rc.fD++[]))):=by simp[Rc.u5]
 have tH:(Rc.aQ gi.length++(gi.flatMap Rc.fD++[])).length≤1000000000:=by
  rw[e0]at hl
  simp only[List.length_append]at hl ⊢
  omega
 rw[e0]at hl ⊢
 have Cy:Hid (Calls Tryz.prog 80 #[.string ⟨(Rc.aQ ci.length++(ci.flatMap Rc.fD++(Rc.aQ gi.length++(gi.flatMap Rc.fD++[])))).toArray⟩] w fun e w1=>e=.returned (.pointer (some ⟨w.heap.size,0,none⟩))∧Hid (bC w1 w.heap.size (Rc.aQ ci.length++(ci.flatMap Rc.fD++(Rc.aQ gi.length++(gi.flatMap Rc.fD++[])))) false∧lC w1 qd qc Q∧Below w.heap.size w w1)):=by
  refine(iZ w _).mono ?_
  rintro e w1 ⟨rfl,q1,q2⟩
  exact⟨rfl,q1,⟨ae hq.1 q2,hq.2⟩,q2⟩
 have HR1:Hid (∀w1,bC w1 w.heap.size (Rc.aQ ci.length++(ci.flatMap Rc.fD++(Rc.aQ gi.length++(gi.flatMap Rc.fD++[])))) false∧lC w1 qd qc Q∧Below w.heap.size w w1→Calls Tryz.prog 145 #[.pointer (some ⟨w.heap.size,0,none⟩),.slice qd Q.length qc] w1 fun e w2=>∃cb,e=.returned (.slice (some ⟨cb,0,none⟩) ci.length ci.length)∧Hid (∃cm,bM w2 (some ⟨cb,0,none⟩) ci.length cm∧fM cm ci∧bC w2 w.heap.size (Rc.aQ gi.length++(gi.flatMap Rc.fD++[])) false∧lC w2 qd qc Q∧Below w.heap.size w w2)):=by
  rintro w1 ⟨h1,h2,h3⟩
  refine(pR w1 w.heap.size ci _ h1 hl hc QS qd qc Q h2).mono ?_
  rintro e w2 ⟨lb,F,rfl,q1,q2,q3,q4,q5,q6⟩
  exact⟨lb,rfl,F,q1,q2,q5,h2.kept h1 q6,q6.aK h3 h3.size (by simp)⟩
 have Lb:Hid (∀w2 cb cm,bM w2 (some ⟨cb,0,none⟩) ci.length cm∧fM cm ci∧bC w2 w.heap.size (Rc.aQ gi.length++(gi.flatMap Rc.fD++[])) false∧lC w2 qd qc Q∧Below w.heap.size w w2→Calls Tryz.prog 145 #[.pointer (some ⟨w.heap.size,0,none⟩),.slice qd Q.length qc] w2 fun e w3=>∃gb,e=.returned (.slice (some ⟨gb,0,none⟩) gi.length gi.length)∧Hid (bC w3 w.heap.size [] false∧∃gone,bM w3 (some ⟨cb,0,none⟩) ci.length cm∧fM cm ci∧bM w3 (some ⟨gb,0,none⟩) gi.length gone∧fM gone gi∧Below w.heap.size w w3)):=by
  rintro w2 cb cm ⟨h1,h2,h3,h4,h5⟩
  refine(pR w2 w.heap.size gi [] h3 tH hg RD qd qc Q h4).mono ?_
  rintro e w3 ⟨lb,F,rfl,q1,q2,q3,q4,q5,q6⟩
  exact⟨lb,rfl,q5,F,h1.kept h3 q6,h2,q1,q2,q6.aK h5 h5.size (by simp)⟩
 generalize (⟨(Rc.aQ ci.length++(ci.flatMap Rc.fD++(Rc.aQ gi.length++(gi.flatMap Rc.fD++[])))).toArray⟩:ByteArray)=S at*
 clear hq hl tH e0
 go_enter Tryz.func84,Tryz.ntmps84
 go_upto_region 4 with(first | (go_at_call 80;refine Cy.out.mono ?_;rintro e w1 ⟨rfl,H1⟩) | (go_at_call 145;first | (refine(HR1.out w1 H1.out).mono ?_;rintro e w2 ⟨cb,rfl,H2⟩;obtain⟨cm,H2⟩:=H2.out;have Q8:Hid _:=H2;clear H1 H2) | (refine(Lb.out w2 cb cm Q8.out).mono ?_;rintro e w3 ⟨gb,rfl,H3⟩)))
 have yT:Hid (Calls Tryz.prog 142 #[.pointer (some ⟨w.heap.size,0,none⟩)] w3 fun e w'=>e=.returned (.bool false)∧w'=w3):=fH w3 _ _ _ H3.out.1
 have HRS:Hid (Calls Tryz.prog 144 #[.pointer (some ⟨w.heap.size,0,none⟩)] w3 fun e w'=>e=.returned (.string ⟨#[]⟩)∧w'=w3):=yl w3 _ _ _ H3.out.1
 clear Cy HR1 Lb Q8
 go_wp2_with (first | (go_at_call 142;refine yT.out.mono ?_;rintro e w4 ⟨rfl,rfl⟩) | (go_at_call 144;refine HRS.out.mono ?_;rintro e w4 ⟨rfl,rfl⟩))
 go_ret3
 obtain⟨_,gone,q⟩:=H3.out
 exact⟨cb,gb,cm,gone,rfl,q⟩
theorem vH{w:World}{eg:Nat}{hd L:List UInt8}{lv:Value}(h:eG w eg hd (Rc.bA L) lv):
 Calls Tryz.prog 29 #[.pointer (some ⟨eg,0,none⟩)] w fun e w'=>e=.returned (.string ⟨L.toArray⟩)∧w'=w:=by
 obtain⟨pl,rv,gm,hm,eb⟩:=h.at_
 obtain⟨_,_,_,_,_,c36⟩:=kI eb h.Jw
 have E9:(convert 63 9 lv).run Tryz.prog w=.ok (.string ⟨L.toArray⟩) w:=by
  obtain⟨h1,⟨e1,e2⟩ | ⟨g,cap,cur,e1,h2,h3,h4,h5,h6,h7⟩⟩:=h.log
  · have:L=[]:=by
     rw[Rc.bB]at e2
     exact List.length_eq_zero_iff.1 e2
    subst this
    rw[e1]
    exact run_convert_bytes_nil w 63 5 Tryz.underlying63 Tryz.underlying5 _ _ 9 Tryz.underlying9
  · rw[e1,Rc.bB]
    refine run_convert_bytes_back w 63 9 5 ⟨g,0,none⟩ _ L Tryz.underlying63 Tryz.underlying5 Tryz.underlying9 ?_
    intro j hj
    rw[Addr.add_lit,cell_of_row _ _ _ _ _ _ h3]
    have h9:(cur.toList.take ((Rc.bA L).length*1))[j]?=some (.int .u8 ((L[j]).toNat:Int)):=by
     rw[h7,Rc.bA,List.getElem?_map,List.getElem?_eq_getElem hj]
     rfl
    rw[List.getElem?_take]at h9
    split at h9
    · simpa using h9
    · cases h9
 obtain⟨ld,ln,lc,e9⟩:∃ld ln lc,lv=.slice ld ln lc:=by
  obtain⟨xd,xc,e⟩:=ah h.log
  exact⟨_,_,_,e⟩
 subst e9
 have hl:=lt_of_heap eb
 clear eb h
 go_enter Tryz.func29,Tryz.ntmps29
 go_wp2_with fail
 go_ret
 exact⟨rfl,rfl⟩
end
/- Engine.redo. -/
section
open Go.RowKit Go.Maps
theorem eG.load{w:World}{eg:Nat}{hd:List UInt8}{lg:List Value}{lv:Value}(h:eG w eg hd lg lv):w.rangeAt eg 4 (Rc.bA hd)∧(Rc.bA hd).length=32∧eg<w.heap.size:=by
 obtain⟨pl,rv,gm,hm,eb⟩:=h.at_
 exact⟨(kI eb h.Jw).2.2.2.2.1,by rw[Rc.bB,h.Jw],lt_of_heap eb⟩
theorem Js{K:Nat→Int}{w:World}{eg:Nat}{hd:List UInt8}{lg:List Value}{lv:Value}(hH:eG w eg hd lg lv)(hK:Dg.uw w K){l:List UInt8}(hl:l.length≤1000000000)(hf:Rd.jD K hd l=(⟨#[]⟩,0,false)):
 Calls Tryz.prog 46 #[.pointer (some ⟨eg,0,none⟩),.string ⟨l.toArray⟩] w fun e w'=>e=.returned (.tuple #[.int .i64 0,.bool false])∧Below w.heap.size w w':=by
 obtain⟨hr,Fg,U9⟩:=hH.load
 have O7:=Aj K w l hd hK hH.Jw hl
 rw[hf]at O7
 have ZP:Hid (Calls Tryz.prog 83 #[.string ⟨l.toArray⟩,.agg (Rc.bA hd).toArray] w fun e w'=>e=.returned (.tuple #[.string ⟨#[]⟩,.int .i64 0,.bool false])∧Hid (Below w.heap.size w w')):=O7.mono (fun e w' ⟨a,b⟩=>⟨a,b⟩)
 have zh:(Tryz.prog.info? 105).map (·.size)=some (Rc.bA hd).length:=by
  rw[Fg]
  kernel_rfl
 have hu:=Tryz.underlying105
 generalize Rc.bA hd=HD at*
 generalize (⟨l.toArray⟩:ByteArray)=S at*
 clear O7 hf hH hK
 go_enter Tryz.func46,Tryz.ntmps46
 go_wp2_with (first | (refine wpList_load_mid rfl _ _ rfl eg 4 rfl _ _ hr hu rfl zh ?_) | (go_at_call 83;refine ZP.out.mono ?_;rintro e w1 ⟨rfl,H1⟩))
 go_ret2
 exact⟨rfl,H1.out⟩
theorem nQ.rules{w:World}{B eg:Nat}{kl:List Ax.ay}{gv:Nat→Bool}{n:Nat}(hE:nQ w B eg kl gv n):∃pl rd rc ll,w.cell? ⟨eg,0,none⟩=some (.string pl)∧w.cell? ⟨eg,1,none⟩=some (.slice rd (List.length ll) rc)∧aI w rd rc ll∧(ll.map MR.aw).map Ax.kX=Ax.gR kl∧ll.length≤8∧ll≠[]:=by
 obtain⟨pl,rd,rc,ll,gm,G,hm,T,s,hd0,lv0,ln,lx,eb,dN,Ss,_,_,_,_,_,Xf,_⟩:=hE.at_
 obtain⟨x0,x1,_⟩:=kI eb Xf
 obtain⟨Xa,_,Aa⟩:=iP dN Ss
 have cA:ll≠[]:=by
  rintro rfl
  simp[Ax.gR,Ax.ls]at Ss
 exact⟨pl,rd,rc,ll,x0,x1,dN,Ss,Aa,cA⟩
def S4(K:Nat→Int)(w w':World)(B eg:Nat)(kl:List Ax.ay)(gv:Nat→Bool)(n:Nat)(hd:List UInt8)(lg:List Value)(ci gi:List Nat):Prop:=
 nQ w' B eg kl (ax (ax gv ci true) gi false) (n+1)∧Below B w w'∧∃qk,eG w' eg (dO K hd ⟨(Rc.u5 ci gi).toArray⟩) (lg++Rc.bA (Rc.aC ⟨(Rc.u5 ci gi).toArray⟩++dO K hd ⟨(Rc.u5 ci gi).toArray⟩)) qk
theorem GN{K:Nat→Int}{w:World}{B eg:Nat}{kl:List Ax.ay}{gv:Nat→Bool}{n:Nat}{hd:List UInt8}{lg:List Value}{lv:Value}(hE:nQ w B eg kl gv n)(hn:n≤2000000)(hB:B≤w.heap.size)(hH:eG w eg hd lg lv)(hK:Dg.uw w K)(hU:eW w){l:List UInt8}(hl:l.length≤1000000000){ci gi:List Nat}(hc:ci.length≤30)(hg:gi.length≤30)(QS:∀i,i∈ci→i<36)(RD:∀i,i∈gi→i<36)(LJ:(Rc.u5 ci gi).length≤1000000000){sz:Nat}(hf:Rd.jD K hd l=(⟨(Rc.u5 ci gi).toArray⟩,sz,true)):
 Calls Tryz.prog 46 #[.pointer (some ⟨eg,0,none⟩),.string ⟨l.toArray⟩] w fun e w'=>e=.returned (.tuple #[.int .i64 (sz:Nat),.bool true])∧S4 K w w' B eg kl gv n hd lg ci gi:=by
 have HN:Hid (n≤2000000):=hn
 clear hn
 obtain⟨hr,Fg,U9⟩:=hH.load
 have O7:=Aj K w l hd hK hH.Jw hl
 rw[hf]at O7
 obtain⟨pl,rd,rc,ll,x0,x1,dN,Ss,Aa,cA⟩:=hE.rules
 have ZP:Hid (Calls Tryz.prog 83 #[.string ⟨l.toArray⟩,.agg (Rc.bA hd).toArray] w fun e w1=>e=.returned (.tuple #[.string ⟨(Rc.u5 ci gi).toArray⟩,.int .i64 (sz:Nat),.bool true])∧w1.cell? ⟨eg,0,none⟩=some (.string pl)∧w1.cell? ⟨eg,1,none⟩=some (.slice rd ll.length rc)∧eg<w1.heap.size∧Hid (Below w.heap.size w w1)):=by
  refine O7.mono ?_
  rintro e w1 ⟨rfl,hb⟩
  exact⟨rfl,bz hb x0,bz hb x1,Nat.lt_of_lt_of_le U9 hb.size,hb⟩
 have tS:Hid (∀w1,Below w.heap.size w w1→Calls Tryz.prog 59 #[.agg #[.string pl,.slice rd ll.length rc]] w1 fun e w2=>∃qd qc,e=.returned (.slice qd (List.length gQ) qc)∧Hid (lC w2 qd qc gQ∧Below w.heap.size w w2)):=by
  intro w1 a8
  refine(mf w1 pl rd rc ll (dN.below a8) (by omega) (nE Ss) cA).mono ?_
  rintro e w5 ⟨qd,qc,Q,rfl,q1,q2,q3⟩
  have hQ:Q=gQ:=N0 q3.out.1 (fun p=>(q3.out.2 p).trans (dW Ss p))
  subst hQ
  exact⟨qd,qc,rfl,⟨aG q1 (Nat.zero_le _),by show 3≤1000;omega,fun p=>(q3.out.2 p).trans (dW Ss p)⟩,a8.trans (q2.mono a8.size)⟩
 have HFC:Hid (∀w2 qd qc,lC w2 qd qc gQ∧Below w.heap.size w w2→Calls Tryz.prog 84 #[.string ⟨(Rc.u5 ci gi).toArray⟩,.slice qd (List.length gQ) qc] w2 fun e w3=>∃cb gb,e=.returned (.tuple #[.slice (some ⟨cb,0,none⟩) ci.length ci.length,.slice (some ⟨gb,0,none⟩) gi.length gi.length,.bool true])∧Hid (∃cm gone,bM w3 (some ⟨cb,0,none⟩) ci.length cm∧fM cm ci∧bM w3 (some ⟨gb,0,none⟩) gi.length gone∧fM gone gi∧Below w.heap.size w w3)):=by
  rintro w2 qd qc ⟨h1,h2⟩
  refine(Dn w2 ci gi hc hg QS RD LJ qd qc gQ h1).mono ?_
  rintro e w3 ⟨cb,gb,cm,gone,rfl,q1,q2,q3,q4,q5⟩
  exact⟨cb,gb,rfl,cm,gone,q1,q2,q3,q4,h2.trans (q5.mono h2.size)⟩
 have IG:Hid (∀w3 cb gb,(∃cm gone,bM w3 (some ⟨cb,0,none⟩) ci.length cm∧fM cm ci∧bM w3 (some ⟨gb,0,none⟩) gi.length gone∧fM gone gi∧Below w.heap.size w w3)→Calls Tryz.prog 38 #[.pointer (some ⟨eg,0,none⟩),.slice (some ⟨cb,0,none⟩) ci.length ci.length,.slice (some ⟨gb,0,none⟩) gi.length gi.length] w3 fun e w4=>e=.returned (.int .i64 0)∧Hid (S4 K w w4 B eg kl gv n hd lg ci gi)):=by
  rintro w3 cb gb ⟨cm,gone,h1,h2,h3,h4,h5⟩
  have e1:=h2.len
  have e2:=h4.len
  rw[e1]at h1
  rw[e2]at h3
  have h9:=LZ K w3 B eg kl gv n (hE.below h5) HN.out (hK.below h5) (Utf8Tabs_below hU h5) (some ⟨cb,0,none⟩) cm.length cm (some ⟨gb,0,none⟩) gone.length gone h1 h3 ci gi h2 h4 (by omega) (by omega)
  rw[←e1,←e2]at h9
  refine h9.mono ?_
  rintro e w4 ⟨rfl,q1,q2,q3,q4⟩
  obtain⟨qk,k1,_⟩:=q4 hd lg lv (hH.below h5)
  rw[rz h2 h4]at k1
  exact⟨rfl,q1,(h5.mono hB).trans q3,qk,k1⟩
 have zh:(Tryz.prog.info? 105).map (·.size)=some (Rc.bA hd).length:=by
  rw[Fg]
  kernel_rfl
 have hu:=Tryz.underlying105
 generalize Rc.bA hd=HD at*
 generalize (⟨l.toArray⟩:ByteArray)=S at*
 generalize (⟨(Rc.u5 ci gi).toArray⟩:ByteArray)=CT at ZP HFC
 clear O7 hf hH hK hU hE dN Ss x0 x1 Aa cA hc hg QS RD LJ hl hB HN
 go_enter Tryz.func46,Tryz.ntmps46
 go_upto_region 2 with(first | (refine wpList_load_mid rfl _ _ rfl eg 4 rfl _ _ hr hu rfl zh ?_) | (go_at_call 83;refine ZP.out.mono ?_;rintro e w1 ⟨rfl,y0,y1,y2,H1⟩))
 clear hr zh
 go_upto_region 5 with(first | (go_at_call 59;refine(tS.out w1 H1.out).mono ?_;rintro e w2 ⟨qd,qc,rfl,H2⟩) | (go_at_call 84;refine(HFC.out w2 qd qc H2.out).mono ?_;rintro e w3 ⟨cb,gb,rfl,H3⟩))
 go_wp2_with (go_at_call 38;refine(IG.out w3 cb gb H3.out).mono ?_;rintro e w4 ⟨rfl,H4⟩)
 go_ret2
 exact⟨rfl,H4.out⟩
end
/- Two engines that go on beside one another. -/
section
open Go.RowKit Go.Maps
theorem eG.same{w:World}{eg:Nat}{hd DK:List UInt8}{lg lg':List Value}{lv qk:Value}(h:eG w eg hd lg lv)(k:eG w eg DK lg' qk):lv=qk:=by
 obtain⟨pl,rv,gm,hm,e⟩:=h.at_
 obtain⟨pl',rv',gm',hm',e'⟩:=k.at_
 rw[e]at e'
 simp only[Option.some.injEq,Obj.cells.injEq,and_true]at e'
 exact(oQ h.Jw k.Jw e').2
end
/- Resumed, walked. -/
section
open Go.RowKit Go.Maps
def kH(gv:Nat→Bool)(l:List (List Int×List Int)):Nat→Bool:=l.foldl ir gv
theorem yx(gv:Nat→Bool)(l:List (List Int×List Int))(x:List Int×List Int):kH gv (l++[x])=ir (kH gv l) x:=by simp[kH]
end
/- Replay: of an export and a log. -/
section
open Go.RowKit Go.Maps
namespace Rp
def ct(x:List Int×List Int):ByteArray:=⟨(Rc.u5 (idxs x.1) (idxs x.2)).toArray⟩
def pX(K:Nat→Int)(hd:List UInt8)(l:List (List Int×List Int)):List UInt8:=l.foldl (fun h x=>dO K h (ct x)) hd
def ku(K:Nat→Int)(hd:List UInt8)(x:List Int×List Int):List UInt8:=Rc.aC (ct x)++dO K hd (ct x)
def cD(K:Nat→Int):List UInt8→List (List Int×List Int)→List UInt8
 | _,[]=>[]
 | hd,x::l=>ku K hd x++cD K (dO K hd (ct x)) l
theorem rL(K:Nat→Int):∀(l m:List (List Int×List Int)) (hd:List UInt8),cD K hd (l++m)=cD K hd l++cD K (pX K hd l) m
 | [],_,_=>rfl
 | x::l,m,hd=>by
  show ku K hd x++cD K _ (l++m)=(ku K hd x++cD K _ l)++_
  rw[rL K l m,List.append_assoc]
  rfl
theorem oY(K:Nat→Int)(l:List (List Int×List Int))(x:List Int×List Int)(hd:List UInt8):cD K hd (l++[x])=cD K hd l++ku K (pX K hd l) x:=by
 rw[rL]
 simp[cD]
theorem Ej(K:Nat→Int)(l:List (List Int×List Int))(x:List Int×List Int)(hd:List UInt8):pX K hd (l++[x])=dO K (pX K hd l) (ct x):=by simp[pX]
theorem WM{i:Nat}(hi:i<36):(Rc.fD i).length≤10:=C9 (f:=⟨(be i).1,(be i).2,.bool false⟩) hi rfl rfl
theorem Hw{l:List Nat}(h:∀i,i∈l→i<36)(hl:l.length≤30):(Rc.aQ l.length++l.flatMap Rc.fD).length≤301:=by
 have h1:=Rc.iw Rc.fD 10 l (fun i hi=>WM (h i hi))
 have h2:=FG (n:=l.length) (by omega)
 rw[List.length_append,h2]
 omega
theorem Mk(x:List Int×List Int):(Rc.u5 (idxs x.1) (idxs x.2)).length≤602:=by
 have h1:=Hw (ng x.1) (oG x.1)
 have h2:=Hw (ng x.2) (oG x.2)
 unfold Rc.u5
 rw[List.length_append]
 omega
theorem vQ(K:Nat→Int)(hd:List UInt8)(x:List Int×List Int):(ku K hd x).length≤640∧33≤(ku K hd x).length:=by
 have h1:=Mk x
 have h2:(dO K hd (ct x)).length=32:=Dg.mA _ _
 have h3:(Rc.aQ (ct x).size).length≤2:=Rc.mD 2 _ (by show(Rc.u5 (idxs x.1) (idxs x.2)).length<_;omega) (by decide)
 have h5:=Rd.xu (ct x).size
 have h4:(ct x).data.toList.length=(Rc.u5 (idxs x.1) (idxs x.2)).length:=by simp[ct]
 unfold ku Rc.aC
 simp only[List.length_append]
 omega
theorem vE(K:Nat→Int):∀(l:List (List Int×List Int)) (hd:List UInt8),(cD K hd l).length≤640*l.length
 | [],_=>by simp[cD]
 | x::l,hd=>by
  have h1:=(vQ K hd x).1
  have h2:=vE K l (dO K hd (ct x))
  show(ku K hd x++cD K _ l).length≤_
  rw[List.length_append,List.length_cons]
  omega
end Rp
structure xQ(K:Nat→Int)(w wr:World)(eg:Nat)(kl:List Ax.ay)(gv:Nat→Bool)(hd:List UInt8)(l:List (List Int×List Int)):Prop where
 Kr:nQ wr w.heap.size eg kl (kH gv l) l.length
 hd:∃lv,eG wr eg (Rp.pX K hd l) (Rc.bA (Rp.cD K hd l)) lv
 aZ:Below w.heap.size w wr
theorem xQ.below{K:Nat→Int}{w wr w':World}{eg:Nat}{kl:List Ax.ay}{gv:Nat→Bool}{hd:List UInt8}{l:List (List Int×List Int)}(h:xQ K w wr eg kl gv hd l)(hb:Below wr.heap.size wr w'):xQ K w w' eg kl gv hd l:=by
 obtain⟨lv,h1⟩:=h.hd
 exact⟨h.Kr.below hb,⟨lv,h1.below hb⟩,h.aZ.trans (hb.mono h.aZ.size)⟩
theorem xQ.whole{K:Nat→Int}{w wr:World}{eg:Nat}{kl:List Ax.ay}{gv:Nat→Bool}{hd:List UInt8}{l:List (List Int×List Int)}(h:xQ K w wr eg kl gv hd l)(hl:l.length≤2000000)(hK:Dg.uw wr K)(hU:eW wr)(x:List Int×List Int)(t:List UInt8)(ht:(Rp.ku K (Rp.pX K hd l) x++t).length≤1000000000):
 Calls Tryz.prog 46 #[.pointer (some ⟨eg,0,none⟩),.string ⟨(Rp.ku K (Rp.pX K hd l) x++t).toArray⟩] wr fun e w'=>e=.returned (.tuple #[.int .i64 ((Rp.ku K (Rp.pX K hd l) x).length:Nat),.bool true])∧xQ K w w' eg kl gv hd (l++[x]):=by
 obtain⟨lv,h1⟩:=h.hd
 have hc:=Rp.Mk x
 refine(GN h.Kr hl h.aZ.size h1 hK hU ht (oG x.1) (oG x.2) (ng x.1) (ng x.2) (by omega) (Rd.Fu K (Rp.pX K hd l) (ct:=Rp.ct x) (by show(Rc.u5 (idxs x.1) (idxs x.2)).length<_;omega) t)).mono ?_
 rintro e w' ⟨rfl,q1,q2,qk,q3⟩
 refine⟨rfl,⟨?_,⟨qk, ?_⟩,h.aZ.trans q2⟩⟩
 · rw[yx,List.length_append]
   exact q1
 · rw[Rp.Ej,Rp.oY,Rc.eK]
   exact q3
theorem xQ.R1{K:Nat→Int}{w wr:World}{eg:Nat}{kl:List Ax.ay}{gv:Nat→Bool}{hd:List UInt8}{l:List (List Int×List Int)}(h:xQ K w wr eg kl gv hd l)(hK:Dg.uw wr K)(x:List Int×List Int){t r:List UInt8}(hr:r≠[])(e:t++r=Rp.ku K (Rp.pX K hd l) x):
 Calls Tryz.prog 46 #[.pointer (some ⟨eg,0,none⟩),.string ⟨t.toArray⟩] wr fun e w'=>e=.returned (.tuple #[.int .i64 0,.bool false])∧xQ K w w' eg kl gv hd l:=by
 obtain⟨lv,h1⟩:=h.hd
 have hc:=Rp.Mk x
 have hz:=(Rp.vQ K (Rp.pX K hd l) x).1
 rw[←e,List.length_append]at hz
 refine(Js h1 hK (by omega) (Rd.Eg K (Rp.pX K hd l) (ct:=Rp.ct x) (by show(Rc.u5 (idxs x.1) (idxs x.2)).length<_;omega) hr e)).mono ?_
 rintro e w' ⟨rfl,hb⟩
 exact⟨rfl,h.below hb⟩
end
end Go.Proofs.YtdmicblafmhflaaGreatDoor
