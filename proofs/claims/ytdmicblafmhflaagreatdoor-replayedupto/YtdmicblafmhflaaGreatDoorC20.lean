/- tooMany. -/
import Derived.Test.YtdmicblafmhflaaGreatDoorC13
import Derived.Test.YtdmicblafmhflaaGreatDoorC00
import Derived.Maps.Own
import Derived.Maps.OwnOps
import Derived.Maps.OwnSet
import Derived.Maps.Views
import Derived.StringKeys
set_option linter.unusedSimpArgs false
set_option linter.unusedVariables false
set_option maxHeartbeats 2000000
set_option maxRecDepth 100000
namespace Go.Proofs.YtdmicblafmhflaaGreatDoor
section
open Go.RowKit
theorem pP(l:List MR)(k:Nat)(h:k<l.length):
 (cJ l)[k*4]?=some (.int .i64 (l[k]).head.1.at_)∧(cJ l)[k*4+1]?=some (.string (l[k]).head.1.pred)∧(cJ l)[k*4+2]?=some (l[k]).head.2∧(cJ l)[k*4+3]?=some (l[k]).bv:=by
 induction l generalizing k with
 | nil=>simp at h
 | cons a l ih=>
  cases k with
  | zero=>simp[cJ]
  | succ k=>
   have:=ih k (by simpa using h)
   have e:∀j,(cJ (a::l))[(k+1)*4+j]?=(cJ l)[k*4+j]?:=by
    intro j
    have:cJ (a::l)=[.int .i64 a.head.1.at_,.string a.head.1.pred,a.head.2,a.bv]++cJ l:=by simp[cJ]
    rw[this,List.getElem?_append_right (by simp;omega)]
    congr 1
    simp;omega
   have e0:=e 0
   simp only[Nat.add_zero]at e0
   rw[e0,e 1,e 2,e 3]
   simpa using this
def aI(w:World)(rd:Option Addr)(rc:Nat)(l:List MR):Prop:=
 w.ownsRow 0 222 4 (.slice rd l.length rc) l.length (cJ l)∧Ig w l∧∀r,r∈l→r.body.length≤1000
theorem aI.below{w w':World}{rd:Option Addr}{rc:Nat}{l:List MR}(h:aI w rd rc l)(hb:Below w.heap.size w w'):aI w' rd rc l:=⟨ae h.1 hb,pe h.2.1 hb,h.2.2⟩
theorem aI.at{w:World}{rd:Option Addr}{rc:Nat}{l:List MR}(h:aI w rd rc l){k:Nat}(hk:k<l.length):
 ∃g a ad c bd d body,rd=some ⟨g,0,none⟩∧g<w.heap.size∧l.length≤rc∧w.cell? ⟨g,k*4,none⟩=some (.int .i64 (Ax.Atom.at_ a))∧w.cell? ⟨g,k*4+1,none⟩=some (.string a.pred)∧w.cell? ⟨g,k*4+2,none⟩=some (.slice ad a.ag.length c)∧
  w.cell? ⟨g,k*4+3,none⟩=some (.slice bd body.length d)∧MR.ok w ⟨(a,.slice ad a.ag.length c),.slice bd body.length d,body⟩∧body.length≤1000∧(l[k]).aw=⟨a,List.map Prod.fst body⟩:=by
 obtain⟨g,rfl,hg,hc,bH⟩:=aD h.1 (by omega)
 have hm:=List.getElem_mem hk
 have dD:=h.2.1 _ hm
 have fm:=h.2.2 _ hm
 obtain⟨c0,c1,c2,c3⟩:=pP l k hk
 generalize l[k]=r at*
 rcases r with⟨⟨a,hv⟩,bv,body⟩
 obtain⟨ad,c,e1⟩:=ah dD.1
 obtain⟨bd,d,e2⟩:=ah dD.2.1
 simp only at e1 e2
 subst e1 e2
 exact⟨g,a,ad,c,bd,d,body,rfl,hg,hc,bH _ _ c0,bH _ _ c1,bH _ _ c2,bH _ _ c3,dD,fm,rfl⟩
theorem Rb{i:Nat}{ps:List ByteArray}{r:Ax.br}(h:8≤i):Ax.gx i ps r=true:=by simp[Ax.gx,h]
theorem KG{i:Nat}{ps:List ByteArray}{r:Ax.br}(h:2<r.body.length):Ax.gx i ps r=true:=by simp[Ax.gx,h]
theorem G1{i:Nat}{ps:List ByteArray}{r:Ax.br}(h:6<ps.length):Ax.gx i ps r=true:=by simp[Ax.gx,h]
theorem KC{i:Nat}{ps:List ByteArray}{r:Ax.br}(h:Ax.jf r.atoms=true):Ax.gx i ps r=true:=by simp[Ax.gx,h]
theorem Kj{i:Nat}{ps:List ByteArray}{r:Ax.br}(h1:¬8≤i)(h2:¬2<r.body.length)(h3:¬6<ps.length)(h4:Ax.jf r.atoms=false):Ax.gx i ps r=false:=by simp[Ax.gx,h1,h2,h3,h4]
def Uk(w wr:World)(v:Value)(ps:List ByteArray)(k:Nat)(L:List Ax.br)(R:Option Nat):Prop:=
 wr.ownsRow w.heap.size 9 1 v ps.length (strCells ps)∧Below w.heap.size w wr∧ps.length≤6∧Ax.cz k ps (L.drop k)=R
theorem uU(w:World)(rd:Option Addr)(rc:Nat)(l:List MR)(h:aI w rd rc l):
 Calls Tryz.prog 106 #[.slice rd l.length rc] w fun e w'=>Below w.heap.size w w'∧((∃at_:Nat,Ax.cz 0 [] (l.map MR.aw)=some at_∧e=.returned (.tuple #[.int .i64 at_,.bool true]))∨(Ax.cz 0 [] (l.map MR.aw)=none∧e=.returned (.tuple #[.int .i64 0,.bool false]))):=by
 have hle:=bh h.1
 generalize hR:Ax.cz 0 [] (l.map MR.aw)=R
 go_enter Tryz.func106,Tryz.ntmps106
 go_wp2_with fail
 go_loopw [4,9] (fun v i wr=>∃(k:Nat) (ps:List ByteArray),k≤l.length∧i=.int .i64 k∧Uk w wr v ps k (l.map MR.aw) R) (fun _ i _=>l.length-(intOf i).toNat)
 case atStart=>exact⟨0,[],Nat.zero_le _,rfl,World.ownsRow_nil _ _ _ _,Below.refl _ _,Nat.zero_le _,hR⟩
 case round=>
  obtain⟨k,ps,hk,rfl,al,aU,kY,hr⟩:=hrel
  have HR:Hid (Ax.cz k ps ((l.map MR.aw).drop k)=R):=hr
  clear hr hR
  obtain⟨pd,pc,YA⟩:=ah al
  subst YA
  have cE:=aU.size
  by_cases aE:k<l.length
  · obtain⟨g,a,ad,c,bd,d,body,rfl,hg,mG,d0,d1,d2,d3,wh,fm,gC⟩:=(h.below aU).at aE
    have fl:(l.map MR.aw).drop k=⟨a,List.map Prod.fst body⟩::(l.map MR.aw).drop (k+1):=by
     rw[List.drop_eq_getElem_cons (by simpa using aE)];simp[gC]
    rw[fl]at HR
    clear fl gC
    obtain⟨qs,F7⟩:∃qs,Ax.da ps (a::List.map Prod.fst body)=qs:=⟨_,rfl⟩
    have HQ:Hid (Ax.da ps (a::List.map Prod.fst body)=qs):=F7
    clear F7
    have pH:Ax.gx k qs ⟨a,List.map Prod.fst body⟩=true→R=some a.at_:=by
     intro hm
     have:=HR.out
     simp only[Ax.cz,Ax.br.atoms,HQ.out,hm,if_true]at this
     exact this.symm
    have iM:Ax.gx k qs ⟨a,List.map Prod.fst body⟩=false→Ax.cz (k+1) qs ((l.map MR.aw).drop (k+1))=R:=by
     intro hm
     have:=HR.out
     simp only[Ax.cz,Ax.br.atoms,HQ.out,hm,Bool.false_eq_true,if_false]at this
     exact this
    by_cases h8:8≤k
    · have HY:Hid (R=some a.at_):=pH (Rb h8)
      clear pH iM HR
      go_wp2_with (first | (go_at_call 180;refine(gN w.heap.size _ pd pc ps _ _ _ _ _ _ (MR.below wh ((Below.refl _ _).alloc (Nat.le_refl _) _)) fm (by simp;omega) (al.alloc _) (by omega)).mono ?_;rintro e w2 ⟨qd,qc,Pv,rfl,F7,aR,fN,mz,P2⟩;have B3:Pv=qs:=F7.out.trans HQ.out;subst B3;have hblk:=mz _ _ (heap_alloc_new wr _) (by simp) (by intro c fz e1;simp at e1);have xX:=fN.size;have e0:=ab hblk 0;have e1:=ab hblk 1;have e2:=ab hblk 2;have e3:=ab hblk 3;simp only[List.getElem?_toArray,List.getElem?_cons_zero,List.getElem?_cons_succ]at e0 e1 e2 e3;simp only[World.size_alloc]at xX))
      go_ret2
      exact⟨(aU.alloc cE _).trans fN,.inl ⟨a.at_,HY.out,rfl⟩⟩
    · by_cases h2:2<body.length
      · have HY:Hid (R=some a.at_):=pH (KG (by simpa using h2))
        clear pH iM HR
        go_wp2_with (first | (go_at_call 180;refine(gN w.heap.size _ pd pc ps _ _ _ _ _ _ (MR.below wh ((Below.refl _ _).alloc (Nat.le_refl _) _)) fm (by simp;omega) (al.alloc _) (by omega)).mono ?_;rintro e w2 ⟨qd,qc,Pv,rfl,F7,aR,fN,mz,P2⟩;have B3:Pv=qs:=F7.out.trans HQ.out;subst B3;have hblk:=mz _ _ (heap_alloc_new wr _) (by simp) (by intro c fz e1;simp at e1);have xX:=fN.size;have e0:=ab hblk 0;have e1:=ab hblk 1;have e2:=ab hblk 2;have e3:=ab hblk 3;simp only[List.getElem?_toArray,List.getElem?_cons_zero,List.getElem?_cons_succ]at e0 e1 e2 e3;simp only[World.size_alloc]at xX))
        go_ret2
        exact⟨(aU.alloc cE _).trans fN,.inl ⟨a.at_,HY.out,rfl⟩⟩
      · by_cases h6:6<qs.length
        · have HY:Hid (R=some a.at_):=pH (G1 h6)
          clear pH iM HR
          go_wp2_with (first | (go_at_call 180;refine(gN w.heap.size _ pd pc ps _ _ _ _ _ _ (MR.below wh ((Below.refl _ _).alloc (Nat.le_refl _) _)) fm (by simp;omega) (al.alloc _) (by omega)).mono ?_;rintro e w2 ⟨qd,qc,Pv,rfl,F7,aR,fN,mz,P2⟩;have B3:Pv=qs:=F7.out.trans HQ.out;subst B3;have hblk:=mz _ _ (heap_alloc_new wr _) (by simp) (by intro c fz e1;simp at e1);have xX:=fN.size;have e0:=ab hblk 0;have e1:=ab hblk 1;have e2:=ab hblk 2;have e3:=ab hblk 3;simp only[List.getElem?_toArray,List.getElem?_cons_zero,List.getElem?_cons_succ]at e0 e1 e2 e3;simp only[World.size_alloc]at xX))
          go_ret2
          exact⟨(aU.alloc cE _).trans fN,.inl ⟨a.at_,HY.out,rfl⟩⟩
        · cases V2:Ax.jf (a::List.map Prod.fst body)
          case true=>
           have HY:Hid (R=some a.at_):=pH (KC V2)
           clear pH iM HR
           go_wp2_with (first | (go_at_call 180;refine(gN w.heap.size _ pd pc ps _ _ _ _ _ _ (MR.below wh ((Below.refl _ _).alloc (Nat.le_refl _) _)) fm (by simp;omega) (al.alloc _) (by omega)).mono ?_;rintro e w2 ⟨qd,qc,Pv,rfl,F7,aR,fN,mz,P2⟩;have B3:Pv=qs:=F7.out.trans HQ.out;subst B3;have hblk:=mz _ _ (heap_alloc_new wr _) (by simp) (by intro c fz e1;simp at e1);have xX:=fN.size;have e0:=ab hblk 0;have e1:=ab hblk 1;have e2:=ab hblk 2;have e3:=ab hblk 3;simp only[List.getElem?_toArray,List.getElem?_cons_zero,List.getElem?_cons_succ]at e0 e1 e2 e3;simp only[World.size_alloc]at xX;have Hc:=MR.others (MR.below wh ((Below.refl _ _).alloc (Nat.le_refl _) _)) mz (by decide) (by decide)) | (go_at_call 112;refine(jg _ _ _ _ _ _ _ Hc fm).mono ?_;rintro e w3 ⟨ad3,c3,rfl,pE,jz,eA⟩;have W8:=bT (e:=9) eA;have oz:=(eA.block _ (lt_of_heap hblk)).trans hblk) | (go_at_call 181;refine(lZ w3 0 ad3 c3 ((a,.slice ad a.ag.length c)::body) (by exact pE) jz).mono ?_;rintro e w4 ⟨rfl,kW⟩;have hw:Ax.jf (((a,Value.slice ad a.ag.length c)::body).map Prod.fst)=true:=V2;rw[hw];have ED:=(kW.block _ (lt_of_heap oz)).trans oz;have g0:=ab ED 0;simp only[List.getElem?_toArray,List.getElem?_cons_zero]at g0;have adn:=lt_of_heap ED))
           go_ret2
           exact⟨(((aU.alloc cE _).trans fN).trans (eA.mono (by omega))).trans (kW.mono (by have:=eA.size;omega)),.inl ⟨a.at_,HY.out,rfl⟩⟩
          case false=>
           have HN:Hid (Ax.cz (k+1) qs ((l.map MR.aw).drop (k+1))=R):=iM (Kj h8 (by simpa using h2) h6 V2)
           clear pH iM HR
           go_wp2_with (first | (go_at_call 180;refine(gN w.heap.size _ pd pc ps _ _ _ _ _ _ (MR.below wh ((Below.refl _ _).alloc (Nat.le_refl _) _)) fm (by simp;omega) (al.alloc _) (by omega)).mono ?_;rintro e w2 ⟨qd,qc,Pv,rfl,F7,aR,fN,mz,P2⟩;have B3:Pv=qs:=F7.out.trans HQ.out;subst B3;have hblk:=mz _ _ (heap_alloc_new wr _) (by simp) (by intro c fz e1;simp at e1);have xX:=fN.size;have e0:=ab hblk 0;have e1:=ab hblk 1;have e2:=ab hblk 2;have e3:=ab hblk 3;simp only[List.getElem?_toArray,List.getElem?_cons_zero,List.getElem?_cons_succ]at e0 e1 e2 e3;simp only[World.size_alloc]at xX;have Hc:=MR.others (MR.below wh ((Below.refl _ _).alloc (Nat.le_refl _) _)) mz (by decide) (by decide)) | (go_at_call 112;refine(jg _ _ _ _ _ _ _ Hc fm).mono ?_;rintro e w3 ⟨ad3,c3,rfl,pE,jz,eA⟩;have W8:=bT (e:=9) eA;have oz:=(eA.block _ (lt_of_heap hblk)).trans hblk) | (go_at_call 181;refine(lZ w3 0 ad3 c3 ((a,.slice ad a.ag.length c)::body) (by exact pE) jz).mono ?_;rintro e w4 ⟨rfl,kW⟩;have hw:Ax.jf (((a,Value.slice ad a.ag.length c)::body).map Prod.fst)=false:=V2;rw[hw];have ED:=(kW.block _ (lt_of_heap oz)).trans oz;have g0:=ab ED 0;simp only[List.getElem?_toArray,List.getElem?_cons_zero]at g0;have adn:=lt_of_heap ED))
           go_roundw
           case rel=>
            exact⟨k+1,Pv,by omega,by go_num,ae (ae aR eA) kW,(((aU.alloc cE _).trans fN).trans (eA.mono (by omega))).trans (kW.mono (by have:=eA.size;omega)),by omega,HN.out⟩
           case measure=>simp[intOf];omega
  · have HE:Hid (R=none):=by
     have:=HR.out
     rw[List.drop_eq_nil_of_le (by simp;omega)]at this
     exact this.symm
    go_wp2_with fail
    go_ret2
    exact⟨aU,.inr ⟨HE.out,rfl⟩⟩
end
/- openHead. -/
section
open Go.RowKit
theorem ry(w:World)(rd:Option Addr)(rc:Nat)(l:List MR)(h:aI w rd rc l):
 Calls Tryz.prog 108 #[.slice rd l.length rc] w fun e w'=>Below w.heap.size w w'∧((∃at_:Nat,Ax.b8 (l.map MR.aw)=some at_∧e=.returned (.tuple #[.int .i64 at_,.bool true]))∨(Ax.b8 (l.map MR.aw)=none∧e=.returned (.tuple #[.int .i64 0,.bool false]))):=by
 have hle:=bh h.1
 generalize hR:Ax.b8 (l.map MR.aw)=R
 go_enter Tryz.func108,Tryz.ntmps108
 go_wp2_with fail
 go_loopw [10] (fun i wr=>∃(k:Nat),k≤l.length∧i=.int .i64 k∧Below w.heap.size w wr∧Ax.b8 ((l.map MR.aw).drop k)=R) (fun i _=>l.length-(intOf i).toNat)
 case atStart=>exact⟨0,Nat.zero_le _,rfl,Below.refl _ _,hR⟩
 case round=>
  obtain⟨k,hk,rfl,aU,hr⟩:=hrel
  have HR:Hid (Ax.b8 ((l.map MR.aw).drop k)=R):=hr
  clear hr hR
  obtain⟨w0,rfl⟩:∃x,x=wr:=⟨_,rfl⟩
  have cE:=aU.size
  by_cases aE:k<l.length
  · obtain⟨g,a,ad,c,bd,d,body,rfl,hg,mG,d0,d1,d2,d3,wh,fm,gC⟩:=(h.below aU).at aE
    have fl:(l.map MR.aw).drop k=⟨a,List.map Prod.fst body⟩::(l.map MR.aw).drop (k+1):=by
     rw[List.drop_eq_getElem_cons (by simpa using aE)];simp[gC]
    rw[fl]at HR
    clear fl gC
    have pH:Ax.lO ⟨a,List.map Prod.fst body⟩=true→R=some a.at_:=by
     intro hm
     have:=HR.out
     simp only[Ax.b8,hm,if_true]at this
     exact this.symm
    have iM:Ax.lO ⟨a,List.map Prod.fst body⟩=false→Ax.b8 ((l.map MR.aw).drop (k+1))=R:=by
     intro hm
     have:=HR.out
     simp only[Ax.b8,hm,Bool.false_eq_true,if_false]at this
     exact this
    have HY:Hid (Ax.lO ⟨a,List.map Prod.fst body⟩=true→R=some a.at_):=pH
    have HN:Hid (Ax.lO ⟨a,List.map Prod.fst body⟩=false→Ax.b8 ((l.map MR.aw).drop (k+1))=R):=iM
    clear pH iM HR
    have RC:=bh wh.1
    simp only at RC
    go_wp2_with fail
    go_loopw [18] (fun i w2=>∃(q:Nat),q≤a.ag.length∧i=.int .i64 q∧Below (w0.heap.size+1) (w0.alloc (.cells #[.int .i64 a.at_,.string a.pred,.slice ad a.ag.length c,.slice bd body.length d] 222)) w2∧∀j (hj:j<a.ag.length),j<q→Ax.ij (List.map Prod.fst body) a.ag[j]=false) (fun i _=>a.ag.length-(intOf i).toNat)
    case atStart=>exact⟨0,Nat.zero_le _,rfl,Below.refl _ _,fun j _ hj=>by omega⟩
    case round=>
     obtain⟨q,hq,rfl,cM,iM⟩:=hrel
     have HO:Hid (∀j (hj:j<a.ag.length),j<q→Ax.ij (List.map Prod.fst body) a.ag[j]=false):=iM
     clear iM
     have xX:=cM.size
     simp only[World.size_alloc]at xX
     have ahR:w0.heap.size<wr.heap.size:=by omega
     have hblk:=(cM.block _ (by omega)).trans (heap_alloc_new w0 _)
     have e0:=ab hblk 0
     have e1:=ab hblk 1
     have e2:=ab hblk 2
     have e3:=ab hblk 3
     simp only[List.getElem?_toArray,List.getElem?_cons_zero,List.getElem?_cons_succ]at e0 e1 e2 e3
     have Hc:=MR.below (MR.below wh ((Below.refl _ _).alloc (Nat.le_refl _) _)) (cM.mono (by simp))
     by_cases mL:q<a.ag.length
     · obtain⟨tg,Zi,lX,htc,u4⟩:=aD Hc.1 (by show 0<a.ag.length;omega)
       simp only at Zi u4
       subst Zi
       have t0:=u4 _ _ (fe a.ag q mL).1
       have t1:=u4 _ _ (fe a.ag q mL).2
       clear u4
       generalize ht:a.ag[q]=t at t0 t1
       have HT:Hid (a.ag[q]=t):=ht
       clear ht
       by_cases sJ:t.kind=1
       · cases hbh:Ax.nb (List.map Prod.fst body) t
         case false=>
          have uf:Hid (R=some a.at_):=HY.out (by
           simp only[Ax.lO,List.any_eq_true]
           exact⟨t,by rw[←HT.out];exact List.getElem_mem mL,by simp[Ax.ij,sJ,hbh]⟩)
          have fq:(t.kind==1)=true:=by simp[sJ]
          clear sJ
          go_wp2_with (first | (go_at_call 183;refine(uC _ _ _ _ _ _ _ (MR.below Hc ((Below.refl _ _).alloc (Nat.le_refl _) _)) t).mono ?_;rintro e w3 ⟨rfl,eA⟩;have oz:=(eA.block _ (by simp;omega)).trans ((Below.heap_alloc _ _ _ (lt_of_heap hblk)).trans hblk);have g0:=ab oz 0;simp only[List.getElem?_toArray,List.getElem?_cons_zero]at g0;have hl3:=lt_of_heap oz;simp only[World.size_alloc]at eA))
          go_ret2
          refine⟨?_,.inl ⟨a.at_,uf.out,rfl⟩⟩
          exact((aU.alloc cE _).trans (cM.mono (by omega))).trans (((Below.refl _ _).alloc (by omega) _).trans (eA.mono (by omega)))
         case true=>
          have MO:Hid (Ax.ij (List.map Prod.fst body) t=false):=by simp[Hid,Ax.ij,hbh]
          have fq:(t.kind==1)=true:=by simp[sJ]
          clear sJ
          go_wp2_with (first | (go_at_call 183;refine(uC _ _ _ _ _ _ _ (MR.below Hc ((Below.refl _ _).alloc (Nat.le_refl _) _)) t).mono ?_;rintro e w3 ⟨rfl,eA⟩;have oz:=(eA.block _ (by simp;omega)).trans ((Below.heap_alloc _ _ _ (lt_of_heap hblk)).trans hblk);have g0:=ab oz 0;simp only[List.getElem?_toArray,List.getElem?_cons_zero]at g0;have hl3:=lt_of_heap oz;simp only[World.size_alloc]at eA))
          go_roundw
          case rel=>
           refine⟨q+1,by omega,by go_num,cM.trans (((Below.refl _ _).alloc (by omega) _).trans (eA.mono (by omega))),fun j hj hjq=> ?_⟩
           by_cases e:j=q
           · subst e;rw[HT.out];exact MO.out
           · exact HO.out j hj (by omega)
          case measure=>simp[intOf];omega
       · have MO:Hid (Ax.ij (List.map Prod.fst body) t=false):=by simp[Hid,Ax.ij,sJ]
         have fq:(t.kind==1)=false:=by simp[sJ]
         clear sJ
         go_wp2_with fail
         go_roundw
         case rel=>
          refine⟨q+1,by omega,by go_num,cM.alloc (by omega) _,fun j hj hjq=> ?_⟩
          by_cases e:j=q
          · subst e;rw[HT.out];exact MO.out
          · exact HO.out j hj (by omega)
         case measure=>simp[intOf];omega
     · have Si:Ax.lO ⟨a,List.map Prod.fst body⟩=false:=by
        rw[Bool.eq_false_iff]
        intro ho
        simp only[Ax.lO,List.any_eq_true]at ho
        obtain⟨t,ht,Uv⟩:=ho
        obtain⟨j,hj,e⟩:=List.getElem_of_mem ht
        have:=HO.out j hj (by omega)
        rw[e,Uv]at this
        cases this
       have HNN:Hid (Ax.b8 ((l.map MR.aw).drop (k+1))=R):=HN.out Si
       clear Si
       go_wp2_with fail
       go_roundw
       case rel=>exact⟨k+1,by omega,by go_num,(aU.alloc cE _).trans (cM.mono (by omega)),HNN.out⟩
       case measure=>simp[intOf];omega
  · have HE:Hid (R=none):=by
     have:=HR.out
     rw[List.drop_eq_nil_of_le (by simp;omega)]at this
     exact this.symm
    go_wp2_with fail
    go_ret2
    exact⟨aU,.inr ⟨HE.out,rfl⟩⟩
end
/- twoArities. -/
section
open Go.RowKit Go.Maps Go.WideMaps Go.WideElems
theorem Tryz.gq:Keyed Tryz.prog 9:=string_keyed Tryz.underlying9
theorem Tryz.Cq(w:World):(zeroValue 3).run Tryz.prog w=.ok (.int .i64 0) w:=by kernel_rfl
def aY(p:ByteArray):Lit:=.string p.data.toList
theorem ke{p q:ByteArray}(h:aY p=aY q):p=q:=by
 simp only[aY,Lit.string.injEq]at h
 rcases p with⟨⟨p⟩⟩
 rcases q with⟨⟨q⟩⟩
 simp at h
 rw[h]
def yf(D:DataW Unit)(m:List (ByteArray×Nat)):Prop:=
 ∀p:ByteArray,Maps.has D (aY p)=(Ax.look m p).isSome∧∀n,Ax.look m p=some n→D.atKey (aY p) (.lit (.int .i64 0))=.lit (.int .i64 n)
theorem K4:yf (.map []) []:=fun p=>⟨rfl,fun n h=>by simp[Ax.look]at h⟩
theorem iC(m:List (ByteArray×Nat))(p q:ByteArray)(n:Nat):Ax.look ((p,n)::m) q=if p=q then some n else Ax.look m q:=by
 by_cases h:p=q<;>simp[Ax.look,List.find?_cons,h]
theorem Aw{D:DataW Unit}{m:List (ByteArray×Nat)}(h:yf D m)(hD:IsMap D)(p:ByteArray)(n:Nat):yf (D.put (aY p) (.lit (.int .i64 n))) ((p,n)::m):=by
 intro q
 rw[iC]
 by_cases e:p=q
 · subst e
   rw[if_pos rfl,has_put_same hD (k:=aY p) trivial,atKey_put_same hD (k:=aY p) trivial]
   exact⟨rfl,fun k hk=>by simp at hk;rw[hk]⟩
 · have cA:aY q≠aY p:=fun h2=>e (ke h2).symm
   rw[if_neg e,has_put_other cA,atKey_put_other cA]
   exact h q
theorem D5{D:DataW Unit}{m:List (ByteArray×Nat)}(h:yf D m)(hD:IsMap D)(p:ByteArray)(n:Nat)(hn:Ax.look m p=some n):yf (D.put (aY p) (.lit (.int .i64 n))) m:=by
 intro q
 have:=Aw h hD p n q
 rw[iC]at this
 by_cases e:p=q
 · subst e
   rw[if_pos rfl]at this
   rw[hn];exact this
 · rw[if_neg e]at this
   exact this
theorem oD{w w':World}{b:Nat}{e:TypeId}{size:Nat}{v:Value}{n:Nat}{xs:List Value}{B:Nat}(h:w.ownsRow b e size v n xs)(hg:w.grownBy w' (some B)){es:Array MapEntry}{ck:Nat}(hB:w.heap[B]?=some (.map es ck)):w'.ownsRow b e size v n xs:=by
 refine h.kept hg ?_
 rcases h.2 with⟨rfl,_⟩ | ⟨g,cap,cur,rfl,_,hh,_⟩
 · exact .inl rfl
 · refine .inr fun e1=> ?_
   simp only[Value.ownBlock,Option.some.injEq]at e1
   rw[e1,hB]at hh
   simp at hh
theorem GQ{w w':World}{l:List MA}{B:Nat}(h:sV w l)(hg:w.grownBy w' (some B)){es:Array MapEntry}{ck:Nat}(hB:w.heap[B]?=some (.map es ck)):sV w' l:=fun x hx=>oD (h x hx) hg hB
theorem yY{w:World}{R:Value→Option (DataW Unit×List MemPlace)}{b n:Nat}{D:DataW Unit}(h:w.ownsMap Tryz.prog 9 R b n D):∃es ck,w.heap[b]?=some (.map es ck):=by
 obtain⟨es,ck,hb,_⟩:=h
 exact⟨es,ck,hb⟩
theorem yP{w w':World}{R:Value→Option (DataW Unit×List MemPlace)}{b n:Nat}{D:DataW Unit}(h:w.ownsMap Tryz.prog 9 R b n D)(hb:Below w.heap.size w w'):w'.ownsMap Tryz.prog 9 R b n D:=h.kept (row:=none) (aV hb none) (by simp)
def Tq(w wr:World)(m:List (ByteArray×Nat))(n:Nat)(L:List Ax.Atom)(R:Option Nat):Prop:=
 (∃D:DataW Unit,wr.ownsMap Tryz.prog 9 (plainElem Tryz.prog 3) w.heap.size n D∧yf D m)∧Below w.heap.size w wr∧Ax.dE m L=R
theorem oB(w:World)(rd:Option Addr)(rc:Nat)(l:List MR)(h:aI w rd rc l)(yD:l.length≤1000)(nK:∀a,a∈(l.map MR.aw).flatMap Ax.br.atoms→a.pred.size≤600):
 Calls Tryz.prog 107 #[.slice rd l.length rc] w fun e w'=>Below w.heap.size w w'∧((∃at_:Nat,Ax.dE [] ((l.map MR.aw).flatMap Ax.br.atoms)=some at_∧e=.returned (.tuple #[.int .i64 at_,.bool true]))∨(Ax.dE [] ((l.map MR.aw).flatMap Ax.br.atoms)=none∧e=.returned (.tuple #[.int .i64 0,.bool false]))):=by
 generalize hR:Ax.dE [] ((l.map MR.aw).flatMap Ax.br.atoms)=R
 have tS:Hid (∀a,a∈(l.map MR.aw).flatMap Ax.br.atoms→a.pred.size≤600):=nK
 clear nK
 have WA:=@run_makeMap Tryz.prog
 go_enter Tryz.func107,Tryz.ntmps107
 go_wp2_with fail
 go_loopw [14] (fun i wr=>∃(k n:Nat) (m:List (ByteArray×Nat)),k≤l.length∧n≤1001*k∧i=.int .i64 k∧Tq w wr m n (((l.map MR.aw).drop k).flatMap Ax.br.atoms) R) (fun i _=>l.length-(intOf i).toNat)
 case atStart=>exact⟨0,0,[],Nat.zero_le _,Nat.zero_le _,rfl,⟨_,World.ownsMap_made _ _ _ _,K4⟩,(Below.refl _ _).alloc (Nat.le_refl _) _,hR⟩
 case round=>
  obtain⟨k,n,m,hk,ZW,rfl,⟨D,al,hmi⟩,aU,hr⟩:=hrel
  have HR:Hid (Ax.dE m (((l.map MR.aw).drop k).flatMap Ax.br.atoms)=R):=hr
  clear hr hR
  obtain⟨w0,rfl⟩:∃x,x=wr:=⟨_,rfl⟩
  have cE:=aU.size
  have Pz:=al.lt
  by_cases aE:k<l.length
  · obtain⟨g,a,ad,c,bd,d,body,rfl,hg,mG,d0,d1,d2,d3,wh,fm,gC⟩:=(h.below aU).at aE
    have fl:(l.map MR.aw).drop k=⟨a,List.map Prod.fst body⟩::(l.map MR.aw).drop (k+1):=by
     rw[List.drop_eq_getElem_cons (by simpa using aE)];simp[gC]
    have SP:∀x,x∈a::List.map Prod.fst body→x.pred.size≤600:=by
     intro x hx
     refine tS.out x ?_
     rw[←List.take_append_drop k (l.map MR.aw),fl]
     simp only[List.flatMap_append,List.flatMap_cons,List.mem_append]
     exact .inr (.inl hx)
    have HM:Hid (∀x,x∈a::List.map Prod.fst body→x.pred.size≤600):=SP
    rw[fl,List.flatMap_cons]at HR
    clear fl gC SP
    go_wp2_with (go_at_call 112;refine(jg _ _ _ _ _ _ _ (MR.below wh ((Below.refl _ _).alloc (Nat.le_refl _) _)) fm).mono ?_;rintro e w1 ⟨QB,c',rfl,pE,jz,a8⟩)
    have bL:Below w0.heap.size w0 w1:=((Below.refl _ _).alloc (Nat.le_refl _) _).trans (a8.mono (by simp))
    have bq:=yP al bL
    have kV:=bL.size
    have se:=aU.trans (bL.mono cE)
    clear a8 wh al bL d0 d1 d2 d3 aU
    obtain⟨es1,ck1,SL⟩:=yY bq
    generalize hL:(a,Value.slice ad a.ag.length c)::body=L at pE jz
    have SO:L.length=body.length+1:=by rw[←hL];rfl
    have Qt:L.map Prod.fst=a::body.map Prod.fst:=by rw[←hL];rfl
    have hLa:L.length≤body.length+1:=by omega
    have hLb:body.length+1≤L.length:=by omega
    have Lb:Hid (Ax.dE m (L.map Prod.fst++((l.map MR.aw).drop (k+1)).flatMap Ax.br.atoms)=R):=by rw[Qt];exact HR.out
    have Wf:Hid (∀x,x∈L.map Prod.fst→x.pred.size≤600):=by rw[Qt];exact HM.out
    clear hL Qt SO HR HM
    go_loopw [21] (fun i w2=>∃(q n':Nat) (m':List (ByteArray×Nat)),q≤L.length∧n'≤n+q∧i=.int .i64 q∧Tq w w2 m' n' ((L.map Prod.fst).drop q++((l.map MR.aw).drop (k+1)).flatMap Ax.br.atoms) R∧w1.grownBy w2 (some w.heap.size)) (fun i _=>L.length-(intOf i).toNat)
    case atStart=>exact⟨0,n,m,Nat.zero_le _,by omega,rfl,⟨⟨D,bq,hmi⟩,se,Lb.out⟩,hO _ _⟩
    case round=>
     obtain⟨q,n',m',hq,hnq,rfl,⟨⟨D',rC,YL⟩,Ij,Ay⟩,AA⟩:=hrel
     have PE:Hid (Ax.dE m' ((L.map Prod.fst).drop q++((l.map MR.aw).drop (k+1)).flatMap Ax.br.atoms)=R):=Ay
     have VY:Hid (yf D' m'):=YL
     have hD':=rC.isMap
     clear Ay Lb YL
     have zX:=AA.size
     have akJ:=rC.lt
     by_cases mL:q<L.length
     · have bQ:=oD pE AA SL
       obtain⟨g2,rfl,dM,uI,bH⟩:=aD bQ (by omega)
       have fG:=bH _ _ (bK L q mL).1
       have fC:=bH _ _ (bK L q mL).2.1
       have gW:=bH _ _ (bK L q mL).2.2
       have yB:MA.ok wr L[q]:=GQ jz AA SL _ (List.getElem_mem mL)
       have nR:=bh yB
       obtain⟨xd,xc,tU⟩:=ah yB
       rw[tU]at gW
       have fl:(L.map Prod.fst).drop q=(L[q]).1::(L.map Prod.fst).drop (q+1):=by
        rw[List.drop_eq_getElem_cons (by simpa using mL)];simp
       rw[fl,List.cons_append]at PE
       have ux:(L[q]).1.pred.size≤600:=Wf.out _ (List.mem_map.2 ⟨_,List.getElem_mem mL,rfl⟩)
       generalize (L[q]).1=x at fG fC gW PE ux nR
       clear tU bH bQ fl yB pE jz
       have mH:keyOf Tryz.prog 9 (.string x.pred)=some (aY x.pred):=keyOf_string_mk Tryz.underlying9 (by unfold maxLen;omega)
       have HK:Hid (keyOf Tryz.prog 9 (.string x.pred)=some (aY x.pred)):=mH
       clear mH
       cases nU:Ax.look m' x.pred with
       | none=>
        have aaP:Maps.has D' (aY x.pred)=false:=by rw[(VY.out x.pred).1,nU];rfl
        have HN:Hid (Ax.dE ((x.pred,x.ag.length)::m') ((L.map Prod.fst).drop (q+1)++((l.map MR.aw).drop (k+1)).flatMap Ax.br.atoms)=R):=by
         have:=PE.out
         simp only[Ax.dE,nU]at this
         exact this
        clear nU PE
        go_wp2_with (first | (at_lookup;go_must (refine wpList_lookup_own_ok_int _ rfl _ _ 307 rfl 9 3 .i64 Tryz.gq Tryz.underlying307 Tryz.underlying3 (Tryz.Cq _) w.heap.size n' D' rfl (rC.alloc _) _ (aY x.pred) rfl HK.out ?_;intro cc u9 hwc;clear u9 hwc)) | (at_mapUpdate;go_must (refine wpList_mapUpdate_own _ rfl _ _ _ 307 rfl 9 3 Tryz.gq Tryz.underlying307 _ w.heap.size n' D' rfl (rC.alloc _) (by unfold maxLen;omega) _ _ (aY x.pred) rfl rfl HK.out (.lit (.int .i64 x.ag.length)) [] (plainElem_int Tryz.underlying3 (WalkArith.wf_i64 (by omega))) ?_;intro w3 fB gp)))
        go_roundw
        case rel=>
         refine⟨q+1,n'+1,(x.pred,x.ag.length)::m',by omega,by omega,by go_num,⟨⟨_,fB,Aw VY.out hD' _ _⟩, ?_,HN.out⟩, ?_⟩
         · exact(Ij.alloc (by omega) _).grown gp (by simp;omega) (fun j hj=>by cases hj;exact Nat.le_refl _)
         · exact aq (grownBy_alloc AA _) gp
        case measure=>simp[intOf];omega
       | some n0=>
        have aaP:Maps.has D' (aY x.pred)=true:=by rw[(VY.out x.pred).1,nU];rfl
        have Ya:Hid (D'.atKey (aY x.pred) (.lit (.int .i64 0))=.lit (.int .i64 n0)):=(VY.out x.pred).2 n0 nU
        by_cases cA:n0=x.ag.length
        · have HN:Hid (Ax.dE m' ((L.map Prod.fst).drop (q+1)++((l.map MR.aw).drop (k+1)).flatMap Ax.br.atoms)=R):=by
           have:=PE.out
           simp only[Ax.dE,nU,cA,if_true]at this
           exact this
          have HLK:Hid (Ax.look m' x.pred=some x.ag.length):=by rw[nU,cA];rfl
          subst cA
          clear nU PE
          go_wp2_with (first | (at_lookup;go_must (refine wpList_lookup_own_ok_int _ rfl _ _ 307 rfl 9 3 .i64 Tryz.gq Tryz.underlying307 Tryz.underlying3 (Tryz.Cq _) w.heap.size n' D' rfl (rC.alloc _) _ (aY x.pred) rfl HK.out ?_;intro cc u9 hwc;obtain rfl:cc=x.ag.length:=by (rw[Ya.out]at u9;simpa using u9.symm))) | (at_mapUpdate;go_must (refine wpList_mapUpdate_own _ rfl _ _ _ 307 rfl 9 3 Tryz.gq Tryz.underlying307 _ w.heap.size n' D' rfl (rC.alloc _) (by unfold maxLen;omega) _ _ (aY x.pred) rfl rfl HK.out (.lit (.int .i64 x.ag.length)) [] (plainElem_int Tryz.underlying3 (WalkArith.wf_i64 (by omega))) ?_;intro w3 fB gp)))
          go_roundw
          case rel=>
           refine⟨q+1,n'+1,m',by omega,by omega,by go_num,⟨⟨_,fB,D5 VY.out hD' _ _ HLK.out⟩, ?_,HN.out⟩, ?_⟩
           · exact(Ij.alloc (by omega) _).grown gp (by simp;omega) (fun j hj=>by cases hj;exact Nat.le_refl _)
           · exact aq (grownBy_alloc AA _) gp
          case measure=>simp[intOf];omega
        · have HY:Hid (R=some x.at_):=by
           have:=PE.out
           simp only[Ax.dE,nU,cA,if_false]at this
           exact this.symm
          have Bw:((n0:Int) != (x.ag.length:Int))=true:=by simp;omega
          clear nU PE cA
          go_wp2_with (first | (at_lookup;go_must (refine wpList_lookup_own_ok_int _ rfl _ _ 307 rfl 9 3 .i64 Tryz.gq Tryz.underlying307 Tryz.underlying3 (Tryz.Cq _) w.heap.size n' D' rfl (rC.alloc _) _ (aY x.pred) rfl HK.out ?_;intro cc u9 hwc;obtain rfl:cc=n0:=by (rw[Ya.out]at u9;simpa using u9.symm))) | (at_mapUpdate;go_must (refine wpList_mapUpdate_own _ rfl _ _ _ 307 rfl 9 3 Tryz.gq Tryz.underlying307 _ w.heap.size n' D' rfl (rC.alloc _) (by unfold maxLen;omega) _ _ (aY x.pred) rfl rfl HK.out (.lit (.int .i64 x.ag.length)) [] (plainElem_int Tryz.underlying3 (WalkArith.wf_i64 (by omega))) ?_;intro w3 fB gp)))
          go_ret2
          exact⟨Ij.alloc (by omega) _,.inl ⟨x.at_,HY.out,rfl⟩⟩
     · have HN:Hid (Ax.dE m' (((l.map MR.aw).drop (k+1)).flatMap Ax.br.atoms)=R):=by
        have:=PE.out
        rw[List.drop_eq_nil_of_le (by simp;omega),List.nil_append]at this
        exact this
       clear PE
       go_wp2_with fail
       go_roundw
       case rel=>exact⟨k+1,n',m',by omega,by omega,by go_num,⟨D',rC,VY.out⟩,Ij,HN.out⟩
       case measure=>simp[intOf];omega
  · have HE:Hid (R=none):=by
     have:=HR.out
     rw[List.drop_eq_nil_of_le (by simp;omega)]at this
     exact this.symm
    go_wp2_with fail
    go_ret2
    exact⟨aU,.inr ⟨HE.out,rfl⟩⟩
end
end Go.Proofs.YtdmicblafmhflaaGreatDoor
