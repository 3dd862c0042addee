/- tooMany. -/
import Derived.Test.YtdmicblafmhflaaGreatDoorC13
import Derived.Test.YtdmicblafmhflaaGreatDoorC00
import Derived.Maps.Own
import Derived.Maps.OwnOps
import Derived.Maps.OwnSet
import Derived.Maps.Views
import Derived.StringKeys
set_option linter.unusedSimpArgs false
set_option linter.unusedVariables false
set_option maxHeartbeats 2000000
set_option maxRecDepth 100000
namespace Go.Proofs.YtdmicblafmhflaaGreatDoor
section
open Go.RowKit
theorem pT(l:List MR)(k:Nat)(h:k<l.length):
 (cJ l)[k*4]?=some (.int .i64 (l[k]).head.1.at_)∧(cJ l)[k*4+1]?=some (.string (l[k]).head.1.pred)∧(cJ l)[k*4+2]?=some (l[k]).head.2∧(cJ l)[k*4+3]?=some (l[k]).bv:=by
 induction l generalizing k with
 | nil=>simp at h
 | cons a l ih=>
  cases k with
  | zero=>simp[cJ]
  | succ k=>
   have:=ih k (by simpa using h)
   have e:∀j,(cJ (a::l))[(k+1)*4+j]?=(cJ l)[k*4+j]?:=by
    intro j
    have:cJ (a::l)=[.int .i64 a.head.1.at_,.string a.head.1.pred,a.head.2,a.bv]++cJ l:=by simp[cJ]
    rw[this,List.getElem?_append_right (by simp;omega)]
    congr 1
    simp;omega
   have e0:=e 0
   simp only[Nat.add_zero]at e0
   rw[e0,e 1,e 2,e 3]
   simpa using this
def aI(w:World)(rd:Option Addr)(rc:Nat)(l:List MR):Prop:=
 w.ownsRow 0 222 4 (.slice rd l.length rc) l.length (cJ l)∧Iw w l∧∀r,r∈l→r.body.length≤1000
theorem aI.below{w w':World}{rd:Option Addr}{rc:Nat}{l:List MR}(h:aI w rd rc l)(hb:Below w.heap.size w w'):aI w' rd rc l:=⟨ae h.1 hb,pA h.2.1 hb,h.2.2⟩
theorem aI.at{w:World}{rd:Option Addr}{rc:Nat}{l:List MR}(h:aI w rd rc l){k:Nat}(hk:k<l.length):
 ∃g a ad c bd d body,rd=some ⟨g,0,none⟩∧g<w.heap.size∧l.length≤rc∧w.cell? ⟨g,k*4,none⟩=some (.int .i64 (Ax.Atom.at_ a))∧w.cell? ⟨g,k*4+1,none⟩=some (.string a.pred)∧w.cell? ⟨g,k*4+2,none⟩=some (.slice ad a.ag.length c)∧
  w.cell? ⟨g,k*4+3,none⟩=some (.slice bd body.length d)∧MR.ok w ⟨(a,.slice ad a.ag.length c),.slice bd body.length d,body⟩∧body.length≤1000∧(l[k]).aw=⟨a,List.map Prod.fst body⟩:=by
 obtain⟨g,rfl,hg,hc,bH⟩:=aD h.1 (by omega)
 have hm:=List.getElem_mem hk
 have dD:=h.2.1 _ hm
 have fl:=h.2.2 _ hm
 obtain⟨c0,c1,c2,c3⟩:=pT l k hk
 generalize l[k]=r at*
 rcases r with⟨⟨a,hv⟩,bv,body⟩
 obtain⟨ad,c,e1⟩:=ah dD.1
 obtain⟨bd,d,e2⟩:=ah dD.2.1
 simp only at e1 e2
 subst e1 e2
 exact⟨g,a,ad,c,bd,d,body,rfl,hg,hc,bH _ _ c0,bH _ _ c1,bH _ _ c2,bH _ _ c3,dD,fl,rfl⟩
theorem QQ{i:Nat}{ps:List ByteArray}{r:Ax.br}(h:8≤i):Ax.gx i ps r=true:=by simp[Ax.gx,h]
theorem KT{i:Nat}{ps:List ByteArray}{r:Ax.br}(h:2<r.body.length):Ax.gx i ps r=true:=by simp[Ax.gx,h]
theorem FA{i:Nat}{ps:List ByteArray}{r:Ax.br}(h:6<ps.length):Ax.gx i ps r=true:=by simp[Ax.gx,h]
theorem Kt{i:Nat}{ps:List ByteArray}{r:Ax.br}(h:Ax.iX r.atoms=true):Ax.gx i ps r=true:=by simp[Ax.gx,h]
theorem KN{i:Nat}{ps:List ByteArray}{r:Ax.br}(h1:¬8≤i)(h2:¬2<r.body.length)(h3:¬6<ps.length)(h4:Ax.iX r.atoms=false):Ax.gx i ps r=false:=by simp[Ax.gx,h1,h2,h3,h4]
def Vh(w wr:World)(v:Value)(ps:List ByteArray)(k:Nat)(L:List Ax.br)(R:Option Nat):Prop:=
 wr.ownsRow w.heap.size 9 1 v ps.length (strCells ps)∧Below w.heap.size w wr∧ps.length≤6∧Ax.cz k ps (L.drop k)=R
theorem uP(w:World)(rd:Option Addr)(rc:Nat)(l:List MR)(h:aI w rd rc l):
 Calls Tryz.prog 106 #[.slice rd l.length rc] w fun e w'=>Below w.heap.size w w'∧((∃at_:Nat,Ax.cz 0 [] (l.map MR.aw)=some at_∧e=.returned (.tuple #[.int .i64 at_,.bool true]))∨(Ax.cz 0 [] (l.map MR.aw)=none∧e=.returned (.tuple #[.int .i64 0,.bool false]))):=by
 have hle:=bh h.1
 generalize hR:Ax.cz 0 [] (l.map MR.aw)=R
 go_enter Tryz.func106,Tryz.ntmps106
 go_wp2_with fail
 go_loopw [4,9] (fun v i wr=>∃(k:Nat) (ps:List ByteArray),k≤l.length∧i=.int .i64 k∧Vh w wr v ps k (l.map MR.aw) R) (fun _ i _=>l.length-(intOf i).toNat)
 case atStart=>exact⟨0,[],Nat.zero_le _,rfl,World.ownsRow_nil _ _ _ _,Below.refl _ _,Nat.zero_le _,hR⟩
 case round=>
  obtain⟨k,ps,hk,rfl,al,aU,lj,hr⟩:=hrel
  have HR:Hid (Ax.cz k ps ((l.map MR.aw).drop k)=R):=hr
  clear hr hR
  obtain⟨pd,pc,YA⟩:=ah al
  subst YA
  have cE:=aU.size
  by_cases aE:k<l.length
  · obtain⟨g,a,ad,c,bd,d,body,rfl,hg,mH,d0,d1,d2,d3,yi,fl,gI⟩:=(h.below aU).at aE
    have fi:(l.map MR.aw).drop k=⟨a,List.map Prod.fst body⟩::(l.map MR.aw).drop (k+1):=by
     rw[List.drop_eq_getElem_cons (by simpa using aE)];simp[gI]
    rw[fi]at HR
    clear fi gI
    obtain⟨qs,F1⟩:∃qs,Ax.da ps (a::List.map Prod.fst body)=qs:=⟨_,rfl⟩
    have HQ:Hid (Ax.da ps (a::List.map Prod.fst body)=qs):=F1
    clear F1
    have pC:Ax.gx k qs ⟨a,List.map Prod.fst body⟩=true→R=some a.at_:=by
     intro hm
     have:=HR.out
     simp only[Ax.cz,Ax.br.atoms,HQ.out,hm,if_true]at this
     exact this.symm
    have iM:Ax.gx k qs ⟨a,List.map Prod.fst body⟩=false→Ax.cz (k+1) qs ((l.map MR.aw).drop (k+1))=R:=by
     intro hm
     have:=HR.out
     simp only[Ax.cz,Ax.br.atoms,HQ.out,hm,Bool.false_eq_true,if_false]at this
     exact this
    by_cases h8:8≤k
    · have HY:Hid (R=some a.at_):=pC (QQ h8)
      clear pC iM HR
      go_wp2_with (first | (go_at_call 180;refine(im w.heap.size _ pd pc ps _ _ _ _ _ _ (MR.below yi ((Below.refl _ _).alloc (Nat.le_refl _) _)) fl (by simp;omega) (al.alloc _) (by omega)).mono ?_;rintro e w2 ⟨qd,qc,Px,rfl,F1,aR,fN,mJ,QA⟩;have Bh:Px=qs:=F1.out.trans HQ.out;subst Bh;have hblk:=mJ _ _ (heap_alloc_new wr _) (by simp) (by intro c fz e1;simp at e1);have xr:=fN.size;have e0:=ab hblk 0;have e1:=ab hblk 1;have e2:=ab hblk 2;have e3:=ab hblk 3;simp only[List.getElem?_toArray,List.getElem?_cons_zero,List.getElem?_cons_succ]at e0 e1 e2 e3;simp only[World.size_alloc]at xr))
      go_ret2
      exact⟨(aU.alloc cE _).trans fN,.inl ⟨a.at_,HY.out,rfl⟩⟩
    · by_cases h2:2<body.length
      · have HY:Hid (R=some a.at_):=pC (KT (by simpa using h2))
        clear pC iM HR
        go_wp2_with (first | (go_at_call 180;refine(im w.heap.size _ pd pc ps _ _ _ _ _ _ (MR.below yi ((Below.refl _ _).alloc (Nat.le_refl _) _)) fl (by simp;omega) (al.alloc _) (by omega)).mono ?_;rintro e w2 ⟨qd,qc,Px,rfl,F1,aR,fN,mJ,QA⟩;have Bh:Px=qs:=F1.out.trans HQ.out;subst Bh;have hblk:=mJ _ _ (heap_alloc_new wr _) (by simp) (by intro c fz e1;simp at e1);have xr:=fN.size;have e0:=ab hblk 0;have e1:=ab hblk 1;have e2:=ab hblk 2;have e3:=ab hblk 3;simp only[List.getElem?_toArray,List.getElem?_cons_zero,List.getElem?_cons_succ]at e0 e1 e2 e3;simp only[World.size_alloc]at xr))
        go_ret2
        exact⟨(aU.alloc cE _).trans fN,.inl ⟨a.at_,HY.out,rfl⟩⟩
      · by_cases h6:6<qs.length
        · have HY:Hid (R=some a.at_):=pC (FA h6)
          clear pC iM HR
          go_wp2_with (first | (go_at_call 180;refine(im w.heap.size _ pd pc ps _ _ _ _ _ _ (MR.below yi ((Below.refl _ _).alloc (Nat.le_refl _) _)) fl (by simp;omega) (al.alloc _) (by omega)).mono ?_;rintro e w2 ⟨qd,qc,Px,rfl,F1,aR,fN,mJ,QA⟩;have Bh:Px=qs:=F1.out.trans HQ.out;subst Bh;have hblk:=mJ _ _ (heap_alloc_new wr _) (by simp) (by intro c fz e1;simp at e1);have xr:=fN.size;have e0:=ab hblk 0;have e1:=ab hblk 1;have e2:=ab hblk 2;have e3:=ab hblk 3;simp only[List.getElem?_toArray,List.getElem?_cons_zero,List.getElem?_cons_succ]at e0 e1 e2 e3;simp only[World.size_alloc]at xr))
          go_ret2
          exact⟨(aU.alloc cE _).trans fN,.inl ⟨a.at_,HY.out,rfl⟩⟩
        · cases Wl:Ax.iX (a::List.map Prod.fst body)
          case true=>
           have HY:Hid (R=some a.at_):=pC (Kt Wl)
           clear pC iM HR
           go_wp2_with (first | (go_at_call 180;refine(im w.heap.size _ pd pc ps _ _ _ _ _ _ (MR.below yi ((Below.refl _ _).alloc (Nat.le_refl _) _)) fl (by simp;omega) (al.alloc _) (by omega)).mono ?_;rintro e w2 ⟨qd,qc,Px,rfl,F1,aR,fN,mJ,QA⟩;have Bh:Px=qs:=F1.out.trans HQ.out;subst Bh;have hblk:=mJ _ _ (heap_alloc_new wr _) (by simp) (by intro c fz e1;simp at e1);have xr:=fN.size;have e0:=ab hblk 0;have e1:=ab hblk 1;have e2:=ab hblk 2;have e3:=ab hblk 3;simp only[List.getElem?_toArray,List.getElem?_cons_zero,List.getElem?_cons_succ]at e0 e1 e2 e3;simp only[World.size_alloc]at xr;have Gv:=MR.others (MR.below yi ((Below.refl _ _).alloc (Nat.le_refl _) _)) mJ (by decide) (by decide)) | (go_at_call 112;refine(jm _ _ _ _ _ _ _ Gv fl).mono ?_;rintro e w3 ⟨ad3,c3,rfl,pG,ju,eA⟩;have Ym:=bS (e:=9) eA;have oj:=(eA.block _ (lt_of_heap hblk)).trans hblk) | (go_at_call 181;refine(mm w3 0 ad3 c3 ((a,.slice ad a.ag.length c)::body) (by exact pG) ju).mono ?_;rintro e w4 ⟨rfl,kY⟩;have hw:Ax.iX (((a,Value.slice ad a.ag.length c)::body).map Prod.fst)=true:=Wl;rw[hw];have DB:=(kY.block _ (lt_of_heap oj)).trans oj;have g0:=ab DB 0;simp only[List.getElem?_toArray,List.getElem?_cons_zero]at g0;have ade:=lt_of_heap DB))
           go_ret2
           exact⟨(((aU.alloc cE _).trans fN).trans (eA.mono (by omega))).trans (kY.mono (by have:=eA.size;omega)),.inl ⟨a.at_,HY.out,rfl⟩⟩
          case false=>
           have HN:Hid (Ax.cz (k+1) qs ((l.map MR.aw).drop (k+1))=R):=iM (KN h8 (by simpa using h2) h6 Wl)
           clear pC iM HR
           go_wp2_with (first | (go_at_call 180;refine(im w.heap.size _ pd pc ps _ _ _ _ _ _ (MR.below yi ((Below.refl _ _).alloc (Nat.le_refl _) _)) fl (by simp;omega) (al.alloc _) (by omega)).mono ?_;rintro e w2 ⟨qd,qc,Px,rfl,F1,aR,fN,mJ,QA⟩;have Bh:Px=qs:=F1.out.trans HQ.out;subst Bh;have hblk:=mJ _ _ (heap_alloc_new wr _) (by simp) (by intro c fz e1;simp at e1);have xr:=fN.size;have e0:=ab hblk 0;have e1:=ab hblk 1;have e2:=ab hblk 2;have e3:=ab hblk 3;simp only[List.getElem?_toArray,List.getElem?_cons_zero,List.getElem?_cons_succ]at e0 e1 e2 e3;simp only[World.size_alloc]at xr;have Gv:=MR.others (MR.below yi ((Below.refl _ _).alloc (Nat.le_refl _) _)) mJ (by decide) (by decide)) | (go_at_call 112;refine(jm _ _ _ _ _ _ _ Gv fl).mono ?_;rintro e w3 ⟨ad3,c3,rfl,pG,ju,eA⟩;have Ym:=bS (e:=9) eA;have oj:=(eA.block _ (lt_of_heap hblk)).trans hblk) | (go_at_call 181;refine(mm w3 0 ad3 c3 ((a,.slice ad a.ag.length c)::body) (by exact pG) ju).mono ?_;rintro e w4 ⟨rfl,kY⟩;have hw:Ax.iX (((a,Value.slice ad a.ag.length c)::body).map Prod.fst)=false:=Wl;rw[hw];have DB:=(kY.block _ (lt_of_heap oj)).trans oj;have g0:=ab DB 0;simp only[List.getElem?_toArray,List.getElem?_cons_zero]at g0;have ade:=lt_of_heap DB))
           go_roundw
           case rel=>
            exact⟨k+1,Px,by omega,by go_num,ae (ae aR eA) kY,(((aU.alloc cE _).trans fN).trans (eA.mono (by omega))).trans (kY.mono (by have:=eA.size;omega)),by omega,HN.out⟩
           case measure=>simp[intOf];omega
  · have HE:Hid (R=none):=by
     have:=HR.out
     rw[List.drop_eq_nil_of_le (by simp;omega)]at this
     exact this.symm
    go_wp2_with fail
    go_ret2
    exact⟨aU,.inr ⟨HE.out,rfl⟩⟩
end
/- openHead. -/
section
open Go.RowKit
theorem sF(w:World)(rd:Option Addr)(rc:Nat)(l:List MR)(h:aI w rd rc l):
 Calls Tryz.prog 108 #[.slice rd l.length rc] w fun e w'=>Below w.heap.size w w'∧((∃at_:Nat,Ax.b7 (l.map MR.aw)=some at_∧e=.returned (.tuple #[.int .i64 at_,.bool true]))∨(Ax.b7 (l.map MR.aw)=none∧e=.returned (.tuple #[.int .i64 0,.bool false]))):=by
 have hle:=bh h.1
 generalize hR:Ax.b7 (l.map MR.aw)=R
 go_enter Tryz.func108,Tryz.ntmps108
 go_wp2_with fail
 go_loopw [10] (fun i wr=>∃(k:Nat),k≤l.length∧i=.int .i64 k∧Below w.heap.size w wr∧Ax.b7 ((l.map MR.aw).drop k)=R) (fun i _=>l.length-(intOf i).toNat)
 case atStart=>exact⟨0,Nat.zero_le _,rfl,Below.refl _ _,hR⟩
 case round=>
  obtain⟨k,hk,rfl,aU,hr⟩:=hrel
  have HR:Hid (Ax.b7 ((l.map MR.aw).drop k)=R):=hr
  clear hr hR
  obtain⟨w0,rfl⟩:∃x,x=wr:=⟨_,rfl⟩
  have cE:=aU.size
  by_cases aE:k<l.length
  · obtain⟨g,a,ad,c,bd,d,body,rfl,hg,mH,d0,d1,d2,d3,yi,fl,gI⟩:=(h.below aU).at aE
    have fi:(l.map MR.aw).drop k=⟨a,List.map Prod.fst body⟩::(l.map MR.aw).drop (k+1):=by
     rw[List.drop_eq_getElem_cons (by simpa using aE)];simp[gI]
    rw[fi]at HR
    clear fi gI
    have pC:Ax.lS ⟨a,List.map Prod.fst body⟩=true→R=some a.at_:=by
     intro hm
     have:=HR.out
     simp only[Ax.b7,hm,if_true]at this
     exact this.symm
    have iM:Ax.lS ⟨a,List.map Prod.fst body⟩=false→Ax.b7 ((l.map MR.aw).drop (k+1))=R:=by
     intro hm
     have:=HR.out
     simp only[Ax.b7,hm,Bool.false_eq_true,if_false]at this
     exact this
    have HY:Hid (Ax.lS ⟨a,List.map Prod.fst body⟩=true→R=some a.at_):=pC
    have HN:Hid (Ax.lS ⟨a,List.map Prod.fst body⟩=false→Ax.b7 ((l.map MR.aw).drop (k+1))=R):=iM
    clear pC iM HR
    have PW:=bh yi.1
    simp only at PW
    go_wp2_with fail
    go_loopw [18] (fun i w2=>∃(q:Nat),q≤a.ag.length∧i=.int .i64 q∧Below (w0.heap.size+1) (w0.alloc (.cells #[.int .i64 a.at_,.string a.pred,.slice ad a.ag.length c,.slice bd body.length d] 222)) w2∧∀j (hj:j<a.ag.length),j<q→Ax.gX (List.map Prod.fst body) a.ag[j]=false) (fun i _=>a.ag.length-(intOf i).toNat)
    case atStart=>exact⟨0,Nat.zero_le _,rfl,Below.refl _ _,fun j _ hj=>by omega⟩
    case round=>
     obtain⟨q,hq,rfl,cM,iM⟩:=hrel
     have HO:Hid (∀j (hj:j<a.ag.length),j<q→Ax.gX (List.map Prod.fst body) a.ag[j]=false):=iM
     clear iM
     have xr:=cM.size
     simp only[World.size_alloc]at xr
     have ahJ:w0.heap.size<wr.heap.size:=by omega
     have hblk:=(cM.block _ (by omega)).trans (heap_alloc_new w0 _)
     have e0:=ab hblk 0
     have e1:=ab hblk 1
     have e2:=ab hblk 2
     have e3:=ab hblk 3
     simp only[List.getElem?_toArray,List.getElem?_cons_zero,List.getElem?_cons_succ]at e0 e1 e2 e3
     have Gv:=MR.below (MR.below yi ((Below.refl _ _).alloc (Nat.le_refl _) _)) (cM.mono (by simp))
     by_cases mP:q<a.ag.length
     · obtain⟨tg,Yl,lY,htc,vB⟩:=aD Gv.1 (by show 0<a.ag.length;omega)
       simp only at Yl vB
       subst Yl
       have t0:=vB _ _ (fe a.ag q mP).1
       have t1:=vB _ _ (fe a.ag q mP).2
       clear vB
       generalize ht:a.ag[q]=t at t0 t1
       have HT:Hid (a.ag[q]=t):=ht
       clear ht
       by_cases sL:t.kind=1
       · cases hbh:Ax.nE (List.map Prod.fst body) t
         case false=>
          have uV:Hid (R=some a.at_):=HY.out (by
           simp only[Ax.lS,List.any_eq_true]
           exact⟨t,by rw[←HT.out];exact List.getElem_mem mP,by simp[Ax.gX,sL,hbh]⟩)
          have fG:(t.kind==1)=true:=by simp[sL]
          clear sL
          go_wp2_with (first | (go_at_call 183;refine(uN _ _ _ _ _ _ _ (MR.below Gv ((Below.refl _ _).alloc (Nat.le_refl _) _)) t).mono ?_;rintro e w3 ⟨rfl,eA⟩;have oj:=(eA.block _ (by simp;omega)).trans ((Below.heap_alloc _ _ _ (lt_of_heap hblk)).trans hblk);have g0:=ab oj 0;simp only[List.getElem?_toArray,List.getElem?_cons_zero]at g0;have ZP:=lt_of_heap oj;simp only[World.size_alloc]at eA))
          go_ret2
          refine⟨?_,.inl ⟨a.at_,uV.out,rfl⟩⟩
          exact((aU.alloc cE _).trans (cM.mono (by omega))).trans (((Below.refl _ _).alloc (by omega) _).trans (eA.mono (by omega)))
         case true=>
          have MP:Hid (Ax.gX (List.map Prod.fst body) t=false):=by simp[Hid,Ax.gX,hbh]
          have fG:(t.kind==1)=true:=by simp[sL]
          clear sL
          go_wp2_with (first | (go_at_call 183;refine(uN _ _ _ _ _ _ _ (MR.below Gv ((Below.refl _ _).alloc (Nat.le_refl _) _)) t).mono ?_;rintro e w3 ⟨rfl,eA⟩;have oj:=(eA.block _ (by simp;omega)).trans ((Below.heap_alloc _ _ _ (lt_of_heap hblk)).trans hblk);have g0:=ab oj 0;simp only[List.getElem?_toArray,List.getElem?_cons_zero]at g0;have ZP:=lt_of_heap oj;simp only[World.size_alloc]at eA))
          go_roundw
          case rel=>
           refine⟨q+1,by omega,by go_num,cM.trans (((Below.refl _ _).alloc (by omega) _).trans (eA.mono (by omega))),fun j hj hjq=> ?_⟩
           by_cases e:j=q
           · subst e;rw[HT.out];exact MP.out
           · exact HO.out j hj (by omega)
          case measure=>simp[intOf];omega
       · have MP:Hid (Ax.gX (List.map Prod.fst body) t=false):=by simp[Hid,Ax.gX,sL]
         have fG:(t.kind==1)=false:=by simp[sL]
         clear sL
         go_wp2_with fail
         go_roundw
         case rel=>
          refine⟨q+1,by omega,by go_num,cM.alloc (by omega) _,fun j hj hjq=> ?_⟩
          by_cases e:j=q
          · subst e;rw[HT.out];exact MP.out
          · exact HO.out j hj (by omega)
         case measure=>simp[intOf];omega
     · have Tj:Ax.lS ⟨a,List.map Prod.fst body⟩=false:=by
        rw[Bool.eq_false_iff]
        intro ho
        simp only[Ax.lS,List.any_eq_true]at ho
        obtain⟨t,ht,U4⟩:=ho
        obtain⟨j,hj,e⟩:=List.getElem_of_mem ht
        have:=HO.out j hj (by omega)
        rw[e,U4]at this
        cases this
       have HNN:Hid (Ax.b7 ((l.map MR.aw).drop (k+1))=R):=HN.out Tj
       clear Tj
       go_wp2_with fail
       go_roundw
       case rel=>exact⟨k+1,by omega,by go_num,(aU.alloc cE _).trans (cM.mono (by omega)),HNN.out⟩
       case measure=>simp[intOf];omega
  · have HE:Hid (R=none):=by
     have:=HR.out
     rw[List.drop_eq_nil_of_le (by simp;omega)]at this
     exact this.symm
    go_wp2_with fail
    go_ret2
    exact⟨aU,.inr ⟨HE.out,rfl⟩⟩
end
/- twoArities. -/
section
open Go.RowKit Go.Maps Go.WideMaps Go.WideElems
theorem Tryz.gz:Keyed Tryz.prog 9:=string_keyed Tryz.underlying9
theorem Tryz.BF(w:World):(zeroValue 3).run Tryz.prog w=.ok (.int .i64 0) w:=by kernel_rfl
def aY(p:ByteArray):Lit:=.string p.data.toList
theorem j8{p q:ByteArray}(h:aY p=aY q):p=q:=by
 simp only[aY,Lit.string.injEq]at h
 rcases p with⟨⟨p⟩⟩
 rcases q with⟨⟨q⟩⟩
 simp at h
 rw[h]
def yB(D:DataW Unit)(m:List (ByteArray×Nat)):Prop:=
 ∀p:ByteArray,Maps.has D (aY p)=(Ax.look m p).isSome∧∀n,Ax.look m p=some n→D.atKey (aY p) (.lit (.int .i64 0))=.lit (.int .i64 n)
theorem KY:yB (.map []) []:=fun p=>⟨rfl,fun n h=>by simp[Ax.look]at h⟩
theorem iV(m:List (ByteArray×Nat))(p q:ByteArray)(n:Nat):Ax.look ((p,n)::m) q=if p=q then some n else Ax.look m q:=by
 by_cases h:p=q<;>simp[Ax.look,List.find?_cons,h]
theorem A4{D:DataW Unit}{m:List (ByteArray×Nat)}(h:yB D m)(hD:IsMap D)(p:ByteArray)(n:Nat):yB (D.put (aY p) (.lit (.int .i64 n))) ((p,n)::m):=by
 intro q
 rw[iV]
 by_cases e:p=q
 · subst e
   rw[if_pos rfl,has_put_same hD (k:=aY p) trivial,atKey_put_same hD (k:=aY p) trivial]
   exact⟨rfl,fun k hk=>by simp at hk;rw[hk]⟩
 · have cA:aY q≠aY p:=fun h2=>e (j8 h2).symm
   rw[if_neg e,has_put_other cA,atKey_put_other cA]
   exact h q
theorem C9{D:DataW Unit}{m:List (ByteArray×Nat)}(h:yB D m)(hD:IsMap D)(p:ByteArray)(n:Nat)(hn:Ax.look m p=some n):yB (D.put (aY p) (.lit (.int .i64 n))) m:=by
 intro q
 have:=A4 h hD p n q
 rw[iV]at this
 by_cases e:p=q
 · subst e
   rw[if_pos rfl]at this
   rw[hn];exact this
 · rw[if_neg e]at this
   exact this
theorem oK{w w':World}{b:Nat}{e:TypeId}{size:Nat}{v:Value}{n:Nat}{xs:List Value}{B:Nat}(h:w.ownsRow b e size v n xs)(hg:w.grownBy w' (some B)){es:Array MapEntry}{ck:Nat}(hB:w.heap[B]?=some (.map es ck)):w'.ownsRow b e size v n xs:=by
 refine h.kept hg ?_
 rcases h.2 with⟨rfl,_⟩ | ⟨g,cap,cur,rfl,_,hh,_⟩
 · exact .inl rfl
 · refine .inr fun e1=> ?_
   simp only[Value.ownBlock,Option.some.injEq]at e1
   rw[e1,hB]at hh
   simp at hh
theorem Ha{w w':World}{l:List MA}{B:Nat}(h:tA w l)(hg:w.grownBy w' (some B)){es:Array MapEntry}{ck:Nat}(hB:w.heap[B]?=some (.map es ck)):tA w' l:=fun x hx=>oK (h x hx) hg hB
theorem zr{w:World}{R:Value→Option (DataW Unit×List MemPlace)}{b n:Nat}{D:DataW Unit}(h:w.ownsMap Tryz.prog 9 R b n D):∃es ck,w.heap[b]?=some (.map es ck):=by
 obtain⟨es,ck,hb,_⟩:=h
 exact⟨es,ck,hb⟩
theorem yN{w w':World}{R:Value→Option (DataW Unit×List MemPlace)}{b n:Nat}{D:DataW Unit}(h:w.ownsMap Tryz.prog 9 R b n D)(hb:Below w.heap.size w w'):w'.ownsMap Tryz.prog 9 R b n D:=h.kept (row:=none) (aW hb none) (by simp)
def Ss(w wr:World)(m:List (ByteArray×Nat))(n:Nat)(L:List Ax.Atom)(R:Option Nat):Prop:=
 (∃D:DataW Unit,wr.ownsMap Tryz.prog 9 (plainElem Tryz.prog 3) w.heap.size n D∧yB D m)∧Below w.heap.size w wr∧Ax.dE m L=R
theorem oF(w:World)(rd:Option Addr)(rc:Nat)(l:List MR)(h:aI w rd rc l)(yE:l.length≤1000)(nO:∀a,a∈(l.map MR.aw).flatMap Ax.br.atoms→a.pred.size≤600):
 Calls Tryz.prog 107 #[.slice rd l.length rc] w fun e w'=>Below w.heap.size w w'∧((∃at_:Nat,Ax.dE [] ((l.map MR.aw).flatMap Ax.br.atoms)=some at_∧e=.returned (.tuple #[.int .i64 at_,.bool true]))∨(Ax.dE [] ((l.map MR.aw).flatMap Ax.br.atoms)=none∧e=.returned (.tuple #[.int .i64 0,.bool false]))):=by
 generalize hR:Ax.dE [] ((l.map MR.aw).flatMap Ax.br.atoms)=R
 have tq:Hid (∀a,a∈(l.map MR.aw).flatMap Ax.br.atoms→a.pred.size≤600):=nO
 clear nO
 have WH:=@run_makeMap Tryz.prog
 go_enter Tryz.func107,Tryz.ntmps107
 go_wp2_with fail
 go_loopw [14] (fun i wr=>∃(k n:Nat) (m:List (ByteArray×Nat)),k≤l.length∧n≤1001*k∧i=.int .i64 k∧Ss w wr m n (((l.map MR.aw).drop k).flatMap Ax.br.atoms) R) (fun i _=>l.length-(intOf i).toNat)
 case atStart=>exact⟨0,0,[],Nat.zero_le _,Nat.zero_le _,rfl,⟨_,World.ownsMap_made _ _ _ _,KY⟩,(Below.refl _ _).alloc (Nat.le_refl _) _,hR⟩
 case round=>
  obtain⟨k,n,m,hk,ZK,rfl,⟨D,al,hmi⟩,aU,hr⟩:=hrel
  have HR:Hid (Ax.dE m (((l.map MR.aw).drop k).flatMap Ax.br.atoms)=R):=hr
  clear hr hR
  obtain⟨w0,rfl⟩:∃x,x=wr:=⟨_,rfl⟩
  have cE:=aU.size
  have Pz:=al.lt
  by_cases aE:k<l.length
  · obtain⟨g,a,ad,c,bd,d,body,rfl,hg,mH,d0,d1,d2,d3,yi,fl,gI⟩:=(h.below aU).at aE
    have fi:(l.map MR.aw).drop k=⟨a,List.map Prod.fst body⟩::(l.map MR.aw).drop (k+1):=by
     rw[List.drop_eq_getElem_cons (by simpa using aE)];simp[gI]
    have Tr:∀x,x∈a::List.map Prod.fst body→x.pred.size≤600:=by
     intro x hx
     refine tq.out x ?_
     rw[←List.take_append_drop k (l.map MR.aw),fi]
     simp only[List.flatMap_append,List.flatMap_cons,List.mem_append]
     exact .inr (.inl hx)
    have HM:Hid (∀x,x∈a::List.map Prod.fst body→x.pred.size≤600):=Tr
    rw[fi,List.flatMap_cons]at HR
    clear fi gI Tr
    go_wp2_with (go_at_call 112;refine(jm _ _ _ _ _ _ _ (MR.below yi ((Below.refl _ _).alloc (Nat.le_refl _) _)) fl).mono ?_;rintro e w1 ⟨Rs,c',rfl,pG,ju,a8⟩)
    have bL:Below w0.heap.size w0 w1:=((Below.refl _ _).alloc (Nat.le_refl _) _).trans (a8.mono (by simp))
    have bq:=yN al bL
    have kA:=bL.size
    have rN:=aU.trans (bL.mono cE)
    clear a8 yi al bL d0 d1 d2 d3 aU
    obtain⟨es1,ck1,S7⟩:=zr bq
    generalize hL:(a,Value.slice ad a.ag.length c)::body=L at pG ju
    have Tc:L.length=body.length+1:=by rw[←hL];rfl
    have QN:L.map Prod.fst=a::body.map Prod.fst:=by rw[←hL];rfl
    have hLa:L.length≤body.length+1:=by omega
    have hLb:body.length+1≤L.length:=by omega
    have Lk:Hid (Ax.dE m (L.map Prod.fst++((l.map MR.aw).drop (k+1)).flatMap Ax.br.atoms)=R):=by rw[QN];exact HR.out
    have V1:Hid (∀x,x∈L.map Prod.fst→x.pred.size≤600):=by rw[QN];exact HM.out
    clear hL QN Tc HR HM
    go_loopw [21] (fun i w2=>∃(q n':Nat) (m':List (ByteArray×Nat)),q≤L.length∧n'≤n+q∧i=.int .i64 q∧Ss w w2 m' n' ((L.map Prod.fst).drop q++((l.map MR.aw).drop (k+1)).flatMap Ax.br.atoms) R∧w1.grownBy w2 (some w.heap.size)) (fun i _=>L.length-(intOf i).toNat)
    case atStart=>exact⟨0,n,m,Nat.zero_le _,by omega,rfl,⟨⟨D,bq,hmi⟩,rN,Lk.out⟩,gV _ _⟩
    case round=>
     obtain⟨q,n',m',hq,hnq,rfl,⟨⟨D',ra,Zf⟩,IC,zT⟩,AL⟩:=hrel
     have PO:Hid (Ax.dE m' ((L.map Prod.fst).drop q++((l.map MR.aw).drop (k+1)).flatMap Ax.br.atoms)=R):=zT
     have VT:Hid (yB D' m'):=Zf
     have hD':=ra.isMap
     clear zT Lk Zf
     have Aq:=AL.size
     have aiK:=ra.lt
     by_cases mP:q<L.length
     · have bQ:=oK pG AL S7
       obtain⟨g2,rfl,dM,uD,bH⟩:=aD bQ (by omega)
       have fC:=bH _ _ (bK L q mP).1
       have fy:=bH _ _ (bK L q mP).2.1
       have gT:=bH _ _ (bK L q mP).2.2
       have yG:MA.ok wr L[q]:=Ha ju AL S7 _ (List.getElem_mem mP)
       have nT:=bh yG
       obtain⟨xd,xc,tV⟩:=ah yG
       rw[tV]at gT
       have fi:(L.map Prod.fst).drop q=(L[q]).1::(L.map Prod.fst).drop (q+1):=by
        rw[List.drop_eq_getElem_cons (by simpa using mP)];simp
       rw[fi,List.cons_append]at PO
       have uH:(L[q]).1.pred.size≤600:=V1.out _ (List.mem_map.2 ⟨_,List.getElem_mem mP,rfl⟩)
       generalize (L[q]).1=x at fC fy gT PO uH nT
       clear tV bH bQ fi yG pG ju
       have l7:keyOf Tryz.prog 9 (.string x.pred)=some (aY x.pred):=keyOf_string_mk Tryz.underlying9 (by unfold maxLen;omega)
       have HK:Hid (keyOf Tryz.prog 9 (.string x.pred)=some (aY x.pred)):=l7
       clear l7
       cases nS:Ax.look m' x.pred with
       | none=>
        have aa2:Maps.has D' (aY x.pred)=false:=by rw[(VT.out x.pred).1,nS];rfl
        have HN:Hid (Ax.dE ((x.pred,x.ag.length)::m') ((L.map Prod.fst).drop (q+1)++((l.map MR.aw).drop (k+1)).flatMap Ax.br.atoms)=R):=by
         have:=PO.out
         simp only[Ax.dE,nS]at this
         exact this
        clear nS PO
        go_wp2_with (first | (at_lookup;go_must (refine wpList_lookup_own_ok_int _ rfl _ _ 307 rfl 9 3 .i64 Tryz.gz Tryz.underlying307 Tryz.underlying3 (Tryz.BF _) w.heap.size n' D' rfl (ra.alloc _) _ (aY x.pred) rfl HK.out ?_;intro cc va hwc;clear va hwc)) | (at_mapUpdate;go_must (refine wpList_mapUpdate_own _ rfl _ _ _ 307 rfl 9 3 Tryz.gz Tryz.underlying307 _ w.heap.size n' D' rfl (ra.alloc _) (by unfold maxLen;omega) _ _ (aY x.pred) rfl rfl HK.out (.lit (.int .i64 x.ag.length)) [] (plainElem_int Tryz.underlying3 (WalkArith.wf_i64 (by omega))) ?_;intro w3 fE gq)))
        go_roundw
        case rel=>
         refine⟨q+1,n'+1,(x.pred,x.ag.length)::m',by omega,by omega,by go_num,⟨⟨_,fE,A4 VT.out hD' _ _⟩, ?_,HN.out⟩, ?_⟩
         · exact(IC.alloc (by omega) _).grown gq (by simp;omega) (fun j hj=>by cases hj;exact Nat.le_refl _)
         · exact aq (grownBy_alloc AL _) gq
        case measure=>simp[intOf];omega
       | some n0=>
        have aa2:Maps.has D' (aY x.pred)=true:=by rw[(VT.out x.pred).1,nS];rfl
        have YN:Hid (D'.atKey (aY x.pred) (.lit (.int .i64 0))=.lit (.int .i64 n0)):=(VT.out x.pred).2 n0 nS
        by_cases cA:n0=x.ag.length
        · have HN:Hid (Ax.dE m' ((L.map Prod.fst).drop (q+1)++((l.map MR.aw).drop (k+1)).flatMap Ax.br.atoms)=R):=by
           have:=PO.out
           simp only[Ax.dE,nS,cA,if_true]at this
           exact this
          have HLK:Hid (Ax.look m' x.pred=some x.ag.length):=by rw[nS,cA];rfl
          subst cA
          clear nS PO
          go_wp2_with (first | (at_lookup;go_must (refine wpList_lookup_own_ok_int _ rfl _ _ 307 rfl 9 3 .i64 Tryz.gz Tryz.underlying307 Tryz.underlying3 (Tryz.BF _) w.heap.size n' D' rfl (ra.alloc _) _ (aY x.pred) rfl HK.out ?_;intro cc va hwc;obtain rfl:cc=x.ag.length:=by (rw[YN.out]at va;simpa using va.symm))) | (at_mapUpdate;go_must (refine wpList_mapUpdate_own _ rfl _ _ _ 307 rfl 9 3 Tryz.gz Tryz.underlying307 _ w.heap.size n' D' rfl (ra.alloc _) (by unfold maxLen;omega) _ _ (aY x.pred) rfl rfl HK.out (.lit (.int .i64 x.ag.length)) [] (plainElem_int Tryz.underlying3 (WalkArith.wf_i64 (by omega))) ?_;intro w3 fE gq)))
          go_roundw
          case rel=>
           refine⟨q+1,n'+1,m',by omega,by omega,by go_num,⟨⟨_,fE,C9 VT.out hD' _ _ HLK.out⟩, ?_,HN.out⟩, ?_⟩
           · exact(IC.alloc (by omega) _).grown gq (by simp;omega) (fun j hj=>by cases hj;exact Nat.le_refl _)
           · exact aq (grownBy_alloc AL _) gq
          case measure=>simp[intOf];omega
        · have HY:Hid (R=some x.at_):=by
           have:=PO.out
           simp only[Ax.dE,nS,cA,if_false]at this
           exact this.symm
          have Bc:((n0:Int) != (x.ag.length:Int))=true:=by simp;omega
          clear nS PO cA
          go_wp2_with (first | (at_lookup;go_must (refine wpList_lookup_own_ok_int _ rfl _ _ 307 rfl 9 3 .i64 Tryz.gz Tryz.underlying307 Tryz.underlying3 (Tryz.BF _) w.heap.size n' D' rfl (ra.alloc _) _ (aY x.pred) rfl HK.out ?_;intro cc va hwc;obtain rfl:cc=n0:=by (rw[YN.out]at va;simpa using va.symm))) | (at_mapUpdate;go_must (refine wpList_mapUpdate_own _ rfl _ _ _ 307 rfl 9 3 Tryz.gz Tryz.underlying307 _ w.heap.size n' D' rfl (ra.alloc _) (by unfold maxLen;omega) _ _ (aY x.pred) rfl rfl HK.out (.lit (.int .i64 x.ag.length)) [] (plainElem_int Tryz.underlying3 (WalkArith.wf_i64 (by omega))) ?_;intro w3 fE gq)))
          go_ret2
          exact⟨IC.alloc (by omega) _,.inl ⟨x.at_,HY.out,rfl⟩⟩
     · have HN:Hid (Ax.dE m' (((l.map MR.aw).drop (k+1)).flatMap Ax.br.atoms)=R):=by
        have:=PO.out
        rw[List.drop_eq_nil_of_le (by simp;omega),List.nil_append]at this
        exact this
       clear PO
       go_wp2_with fail
       go_roundw
       case rel=>exact⟨k+1,n',m',by omega,by omega,by go_num,⟨D',ra,VT.out⟩,IC,HN.out⟩
       case measure=>simp[intOf];omega
  · have HE:Hid (R=none):=by
     have:=HR.out
     rw[List.drop_eq_nil_of_le (by simp;omega)]at this
     exact this.symm
    go_wp2_with fail
    go_ret2
    exact⟨aU,.inr ⟨HE.out,rfl⟩⟩
end
end Go.Proofs.YtdmicblafmhflaaGreatDoor
