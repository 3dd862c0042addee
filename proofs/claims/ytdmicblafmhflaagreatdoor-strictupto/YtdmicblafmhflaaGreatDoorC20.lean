/- tooMany. -/
import Derived.Test.YtdmicblafmhflaaGreatDoorC13
import Derived.Test.YtdmicblafmhflaaGreatDoorC00
import Derived.Maps.Own
import Derived.Maps.OwnOps
import Derived.Maps.OwnSet
import Derived.Maps.Views
import Derived.StringKeys
set_option linter.unusedSimpArgs false
set_option linter.unusedVariables false
set_option maxHeartbeats 2000000
set_option maxRecDepth 100000
namespace Go.Proofs.YtdmicblafmhflaaGreatDoor
section
open Go.RowKit
theorem pZ(l:List MR)(k:Nat)(h:k<l.length):
 (cI l)[k*4]?=some (.int .i64 (l[k]).head.1.at_)∧(cI l)[k*4+1]?=some (.string (l[k]).head.1.pred)∧(cI l)[k*4+2]?=some (l[k]).head.2∧(cI l)[k*4+3]?=some (l[k]).bv:=by
 induction l generalizing k with
 | nil=>simp at h
 | cons a l ih=>
  cases k with
  | zero=>simp[cI]
  | succ k=>
   have:=ih k (by simpa using h)
   have e:∀j,(cI (a::l))[(k+1)*4+j]?=(cI l)[k*4+j]?:=by
    intro j
    have:cI (a::l)=[.int .i64 a.head.1.at_,.string a.head.1.pred,a.head.2,a.bv]++cI l:=by simp[cI]
    rw[this,List.getElem?_append_right (by simp;omega)]
    congr 1
    simp;omega
   have e0:=e 0
   simp only[Nat.add_zero]at e0
   rw[e0,e 1,e 2,e 3]
   simpa using this
def aB(w:World)(rd:Option Addr)(rc:Nat)(l:List MR):Prop:=
 w.ownsRow 0 222 4 (.slice rd l.length rc) l.length (cI l)∧IW w l∧∀r,r∈l→r.body.length≤1000
theorem aB.below{w w':World}{rd:Option Addr}{rc:Nat}{l:List MR}(h:aB w rd rc l)(hb:Below w.heap.size w w'):aB w' rd rc l:=⟨af h.1 hb,pG h.2.1 hb,h.2.2⟩
theorem aB.at{w:World}{rd:Option Addr}{rc:Nat}{l:List MR}(h:aB w rd rc l){k:Nat}(hk:k<l.length):
 ∃g a ad c bd d body,rd=some ⟨g,0,none⟩∧g<w.heap.size∧l.length≤rc∧w.cell? ⟨g,k*4,none⟩=some (.int .i64 (Ax.Atom.at_ a))∧w.cell? ⟨g,k*4+1,none⟩=some (.string a.pred)∧w.cell? ⟨g,k*4+2,none⟩=some (.slice ad a.ag.length c)∧
  w.cell? ⟨g,k*4+3,none⟩=some (.slice bd body.length d)∧MR.ok w ⟨(a,.slice ad a.ag.length c),.slice bd body.length d,body⟩∧body.length≤1000∧(l[k]).ak=⟨a,List.map Prod.fst body⟩:=by
 obtain⟨g,rfl,hg,hc,bA⟩:=ax h.1 (by omega)
 have hm:=List.getElem_mem hk
 have cB:=h.2.1 _ hm
 have fE:=h.2.2 _ hm
 obtain⟨c0,c1,c2,c3⟩:=pZ l k hk
 generalize l[k]=r at*
 rcases r with⟨⟨a,hv⟩,bv,body⟩
 obtain⟨ad,c,e1⟩:=ah cB.1
 obtain⟨bd,d,e2⟩:=ah cB.2.1
 simp only at e1 e2
 subst e1 e2
 exact⟨g,a,ad,c,bd,d,body,rfl,hg,hc,bA _ _ c0,bA _ _ c1,bA _ _ c2,bA _ _ c3,cB,fE,rfl⟩
theorem R4{i:Nat}{ps:List ByteArray}{r:Ax.aP}(h:8≤i):Ax.fI i ps r=true:=by simp[Ax.fI,h]
theorem K9{i:Nat}{ps:List ByteArray}{r:Ax.aP}(h:2<r.body.length):Ax.fI i ps r=true:=by simp[Ax.fI,h]
theorem GZ{i:Nat}{ps:List ByteArray}{r:Ax.aP}(h:6<ps.length):Ax.fI i ps r=true:=by simp[Ax.fI,h]
theorem J9{i:Nat}{ps:List ByteArray}{r:Ax.aP}(h:Ax.iw r.atoms=true):Ax.fI i ps r=true:=by simp[Ax.fI,h]
theorem JQ{i:Nat}{ps:List ByteArray}{r:Ax.aP}(h1:¬8≤i)(h2:¬2<r.body.length)(h3:¬6<ps.length)(h4:Ax.iw r.atoms=false):Ax.fI i ps r=false:=by simp[Ax.fI,h1,h2,h3,h4]
def UX(w wr:World)(v:Value)(ps:List ByteArray)(k:Nat)(L:List Ax.aP)(R:Option Nat):Prop:=
 wr.ownsRow w.heap.size 9 1 v ps.length (strCells ps)∧Below w.heap.size w wr∧ps.length≤6∧Ax.bW k ps (L.drop k)=R
theorem ux(w:World)(rd:Option Addr)(rc:Nat)(l:List MR)(h:aB w rd rc l):
 Calls Tryz.prog 106 #[.slice rd l.length rc] w fun e w'=>Below w.heap.size w w'∧((∃at_:Nat,Ax.bW 0 [] (l.map MR.ak)=some at_∧e=.returned (.tuple #[.int .i64 at_,.bool true]))∨(Ax.bW 0 [] (l.map MR.ak)=none∧e=.returned (.tuple #[.int .i64 0,.bool false]))):=by
 have hle:=aZ h.1
 generalize hR:Ax.bW 0 [] (l.map MR.ak)=R
 go_enter Tryz.func106,Tryz.ntmps106
 go_wp2_with fail
 go_loopw [4,9] (fun v i wr=>∃(k:Nat) (ps:List ByteArray),k≤l.length∧i=.int .i64 k∧UX w wr v ps k (l.map MR.ak) R) (fun _ i _=>l.length-(intOf i).toNat)
 case atStart=>exact⟨0,[],Nat.zero_le _,rfl,World.ownsRow_nil _ _ _ _,Below.refl _ _,Nat.zero_le _,hR⟩
 case round=>
  obtain⟨k,ps,hk,rfl,aj,aR,lu,hr⟩:=hrel
  have HR:Hid (Ax.bW k ps ((l.map MR.ak).drop k)=R):=hr
  clear hr hR
  obtain⟨pd,pc,Xr⟩:=ah aj
  subst Xr
  have cr:=aR.size
  by_cases aC:k<l.length
  · obtain⟨g,a,ad,c,bd,d,body,rfl,hg,na,d0,d1,d2,d3,x7,fE,gS⟩:=(h.below aR).at aC
    have fo:(l.map MR.ak).drop k=⟨a,List.map Prod.fst body⟩::(l.map MR.ak).drop (k+1):=by
     rw[List.drop_eq_getElem_cons (by simpa using aC)];simp[gS]
    rw[fo]at HR
    clear fo gS
    obtain⟨qs,Co⟩:∃qs,Ax.cE ps (a::List.map Prod.fst body)=qs:=⟨_,rfl⟩
    have HQ:Hid (Ax.cE ps (a::List.map Prod.fst body)=qs):=Co
    clear Co
    have pT:Ax.fI k qs ⟨a,List.map Prod.fst body⟩=true→R=some a.at_:=by
     intro hm
     have:=HR.out
     simp only[Ax.bW,Ax.aP.atoms,HQ.out,hm,if_true]at this
     exact this.symm
    have jO:Ax.fI k qs ⟨a,List.map Prod.fst body⟩=false→Ax.bW (k+1) qs ((l.map MR.ak).drop (k+1))=R:=by
     intro hm
     have:=HR.out
     simp only[Ax.bW,Ax.aP.atoms,HQ.out,hm,Bool.false_eq_true,if_false]at this
     exact this
    by_cases h8:8≤k
    · have HY:Hid (R=some a.at_):=pT (R4 h8)
      clear pT jO HR
      go_wp2_with (first | (go_at_call 180;refine(ij w.heap.size _ pd pc ps _ _ _ _ _ _ (MR.below x7 ((Below.refl _ _).alloc (Nat.le_refl _) _)) fE (by simp;omega) (aj.alloc _) (by omega)).mono ?_;rintro e w2 ⟨qd,qc,PQ,rfl,Co,aO,fU,mG,T9⟩;have CC:PQ=qs:=Co.out.trans HQ.out;subst CC;have hblk:=mG _ _ (heap_alloc_new wr _) (by simp) (by intro c fz e1;simp at e1);have wQ:=fU.size;have e0:=ab hblk 0;have e1:=ab hblk 1;have e2:=ab hblk 2;have e3:=ab hblk 3;simp only[List.getElem?_toArray,List.getElem?_cons_zero,List.getElem?_cons_succ]at e0 e1 e2 e3;simp only[World.size_alloc]at wQ))
      go_ret2
      exact⟨(aR.alloc cr _).trans fU,.inl ⟨a.at_,HY.out,rfl⟩⟩
    · by_cases h2:2<body.length
      · have HY:Hid (R=some a.at_):=pT (K9 (by simpa using h2))
        clear pT jO HR
        go_wp2_with (first | (go_at_call 180;refine(ij w.heap.size _ pd pc ps _ _ _ _ _ _ (MR.below x7 ((Below.refl _ _).alloc (Nat.le_refl _) _)) fE (by simp;omega) (aj.alloc _) (by omega)).mono ?_;rintro e w2 ⟨qd,qc,PQ,rfl,Co,aO,fU,mG,T9⟩;have CC:PQ=qs:=Co.out.trans HQ.out;subst CC;have hblk:=mG _ _ (heap_alloc_new wr _) (by simp) (by intro c fz e1;simp at e1);have wQ:=fU.size;have e0:=ab hblk 0;have e1:=ab hblk 1;have e2:=ab hblk 2;have e3:=ab hblk 3;simp only[List.getElem?_toArray,List.getElem?_cons_zero,List.getElem?_cons_succ]at e0 e1 e2 e3;simp only[World.size_alloc]at wQ))
        go_ret2
        exact⟨(aR.alloc cr _).trans fU,.inl ⟨a.at_,HY.out,rfl⟩⟩
      · by_cases h6:6<qs.length
        · have HY:Hid (R=some a.at_):=pT (GZ h6)
          clear pT jO HR
          go_wp2_with (first | (go_at_call 180;refine(ij w.heap.size _ pd pc ps _ _ _ _ _ _ (MR.below x7 ((Below.refl _ _).alloc (Nat.le_refl _) _)) fE (by simp;omega) (aj.alloc _) (by omega)).mono ?_;rintro e w2 ⟨qd,qc,PQ,rfl,Co,aO,fU,mG,T9⟩;have CC:PQ=qs:=Co.out.trans HQ.out;subst CC;have hblk:=mG _ _ (heap_alloc_new wr _) (by simp) (by intro c fz e1;simp at e1);have wQ:=fU.size;have e0:=ab hblk 0;have e1:=ab hblk 1;have e2:=ab hblk 2;have e3:=ab hblk 3;simp only[List.getElem?_toArray,List.getElem?_cons_zero,List.getElem?_cons_succ]at e0 e1 e2 e3;simp only[World.size_alloc]at wQ))
          go_ret2
          exact⟨(aR.alloc cr _).trans fU,.inl ⟨a.at_,HY.out,rfl⟩⟩
        · cases W8:Ax.iw (a::List.map Prod.fst body)
          case true=>
           have HY:Hid (R=some a.at_):=pT (J9 W8)
           clear pT jO HR
           go_wp2_with (first | (go_at_call 180;refine(ij w.heap.size _ pd pc ps _ _ _ _ _ _ (MR.below x7 ((Below.refl _ _).alloc (Nat.le_refl _) _)) fE (by simp;omega) (aj.alloc _) (by omega)).mono ?_;rintro e w2 ⟨qd,qc,PQ,rfl,Co,aO,fU,mG,T9⟩;have CC:PQ=qs:=Co.out.trans HQ.out;subst CC;have hblk:=mG _ _ (heap_alloc_new wr _) (by simp) (by intro c fz e1;simp at e1);have wQ:=fU.size;have e0:=ab hblk 0;have e1:=ab hblk 1;have e2:=ab hblk 2;have e3:=ab hblk 3;simp only[List.getElem?_toArray,List.getElem?_cons_zero,List.getElem?_cons_succ]at e0 e1 e2 e3;simp only[World.size_alloc]at wQ;have FY:=MR.others (MR.below x7 ((Below.refl _ _).alloc (Nat.le_refl _) _)) mG (by decide) (by decide)) | (go_at_call 112;refine(jD _ _ _ _ _ _ _ FY fE).mono ?_;rintro e w3 ⟨ad3,c3,rfl,pP,jt,eB⟩;have ZV:=bR (e:=9) eB;have oQ:=(eB.block _ (lt_of_heap hblk)).trans hblk) | (go_at_call 181;refine(mL w3 0 ad3 c3 ((a,.slice ad a.ag.length c)::body) (by exact pP) jt).mono ?_;rintro e w4 ⟨rfl,lZ⟩;have hw:Ax.iw (((a,Value.slice ad a.ag.length c)::body).map Prod.fst)=true:=W8;rw[hw];have Dj:=(lZ.block _ (lt_of_heap oQ)).trans oQ;have g0:=ab Dj 0;simp only[List.getElem?_toArray,List.getElem?_cons_zero]at g0;have ada:=lt_of_heap Dj))
           go_ret2
           exact⟨(((aR.alloc cr _).trans fU).trans (eB.mono (by omega))).trans (lZ.mono (by have:=eB.size;omega)),.inl ⟨a.at_,HY.out,rfl⟩⟩
          case false=>
           have HN:Hid (Ax.bW (k+1) qs ((l.map MR.ak).drop (k+1))=R):=jO (JQ h8 (by simpa using h2) h6 W8)
           clear pT jO HR
           go_wp2_with (first | (go_at_call 180;refine(ij w.heap.size _ pd pc ps _ _ _ _ _ _ (MR.below x7 ((Below.refl _ _).alloc (Nat.le_refl _) _)) fE (by simp;omega) (aj.alloc _) (by omega)).mono ?_;rintro e w2 ⟨qd,qc,PQ,rfl,Co,aO,fU,mG,T9⟩;have CC:PQ=qs:=Co.out.trans HQ.out;subst CC;have hblk:=mG _ _ (heap_alloc_new wr _) (by simp) (by intro c fz e1;simp at e1);have wQ:=fU.size;have e0:=ab hblk 0;have e1:=ab hblk 1;have e2:=ab hblk 2;have e3:=ab hblk 3;simp only[List.getElem?_toArray,List.getElem?_cons_zero,List.getElem?_cons_succ]at e0 e1 e2 e3;simp only[World.size_alloc]at wQ;have FY:=MR.others (MR.below x7 ((Below.refl _ _).alloc (Nat.le_refl _) _)) mG (by decide) (by decide)) | (go_at_call 112;refine(jD _ _ _ _ _ _ _ FY fE).mono ?_;rintro e w3 ⟨ad3,c3,rfl,pP,jt,eB⟩;have ZV:=bR (e:=9) eB;have oQ:=(eB.block _ (lt_of_heap hblk)).trans hblk) | (go_at_call 181;refine(mL w3 0 ad3 c3 ((a,.slice ad a.ag.length c)::body) (by exact pP) jt).mono ?_;rintro e w4 ⟨rfl,lZ⟩;have hw:Ax.iw (((a,Value.slice ad a.ag.length c)::body).map Prod.fst)=false:=W8;rw[hw];have Dj:=(lZ.block _ (lt_of_heap oQ)).trans oQ;have g0:=ab Dj 0;simp only[List.getElem?_toArray,List.getElem?_cons_zero]at g0;have ada:=lt_of_heap Dj))
           go_roundw
           case rel=>
            exact⟨k+1,PQ,by omega,by go_num,af (af aO eB) lZ,(((aR.alloc cr _).trans fU).trans (eB.mono (by omega))).trans (lZ.mono (by have:=eB.size;omega)),by omega,HN.out⟩
           case measure=>simp[intOf];omega
  · have HE:Hid (R=none):=by
     have:=HR.out
     rw[List.drop_eq_nil_of_le (by simp;omega)]at this
     exact this.symm
    go_wp2_with fail
    go_ret2
    exact⟨aR,.inr ⟨HE.out,rfl⟩⟩
end
/- openHead. -/
section
open Go.RowKit
theorem rr(w:World)(rd:Option Addr)(rc:Nat)(l:List MR)(h:aB w rd rc l):
 Calls Tryz.prog 108 #[.slice rd l.length rc] w fun e w'=>Below w.heap.size w w'∧((∃at_:Nat,Ax.b7 (l.map MR.ak)=some at_∧e=.returned (.tuple #[.int .i64 at_,.bool true]))∨(Ax.b7 (l.map MR.ak)=none∧e=.returned (.tuple #[.int .i64 0,.bool false]))):=by
 have hle:=aZ h.1
 generalize hR:Ax.b7 (l.map MR.ak)=R
 go_enter Tryz.func108,Tryz.ntmps108
 go_wp2_with fail
 go_loopw [10] (fun i wr=>∃(k:Nat),k≤l.length∧i=.int .i64 k∧Below w.heap.size w wr∧Ax.b7 ((l.map MR.ak).drop k)=R) (fun i _=>l.length-(intOf i).toNat)
 case atStart=>exact⟨0,Nat.zero_le _,rfl,Below.refl _ _,hR⟩
 case round=>
  obtain⟨k,hk,rfl,aR,hr⟩:=hrel
  have HR:Hid (Ax.b7 ((l.map MR.ak).drop k)=R):=hr
  clear hr hR
  obtain⟨w0,rfl⟩:∃x,x=wr:=⟨_,rfl⟩
  have cr:=aR.size
  by_cases aC:k<l.length
  · obtain⟨g,a,ad,c,bd,d,body,rfl,hg,na,d0,d1,d2,d3,x7,fE,gS⟩:=(h.below aR).at aC
    have fo:(l.map MR.ak).drop k=⟨a,List.map Prod.fst body⟩::(l.map MR.ak).drop (k+1):=by
     rw[List.drop_eq_getElem_cons (by simpa using aC)];simp[gS]
    rw[fo]at HR
    clear fo gS
    have pT:Ax.lM ⟨a,List.map Prod.fst body⟩=true→R=some a.at_:=by
     intro hm
     have:=HR.out
     simp only[Ax.b7,hm,if_true]at this
     exact this.symm
    have jO:Ax.lM ⟨a,List.map Prod.fst body⟩=false→Ax.b7 ((l.map MR.ak).drop (k+1))=R:=by
     intro hm
     have:=HR.out
     simp only[Ax.b7,hm,Bool.false_eq_true,if_false]at this
     exact this
    have HY:Hid (Ax.lM ⟨a,List.map Prod.fst body⟩=true→R=some a.at_):=pT
    have HN:Hid (Ax.lM ⟨a,List.map Prod.fst body⟩=false→Ax.b7 ((l.map MR.ak).drop (k+1))=R):=jO
    clear pT jO HR
    have QN:=aZ x7.1
    simp only at QN
    go_wp2_with fail
    go_loopw [18] (fun i w2=>∃(q:Nat),q≤a.ag.length∧i=.int .i64 q∧Below (w0.heap.size+1) (w0.alloc (.cells #[.int .i64 a.at_,.string a.pred,.slice ad a.ag.length c,.slice bd body.length d] 222)) w2∧∀j (hj:j<a.ag.length),j<q→Ax.iu (List.map Prod.fst body) a.ag[j]=false) (fun i _=>a.ag.length-(intOf i).toNat)
    case atStart=>exact⟨0,Nat.zero_le _,rfl,Below.refl _ _,fun j _ hj=>by omega⟩
    case round=>
     obtain⟨q,hq,rfl,cM,jO⟩:=hrel
     have HO:Hid (∀j (hj:j<a.ag.length),j<q→Ax.iu (List.map Prod.fst body) a.ag[j]=false):=jO
     clear jO
     have wQ:=cM.size
     simp only[World.size_alloc]at wQ
     have aiz:w0.heap.size<wr.heap.size:=by omega
     have hblk:=(cM.block _ (by omega)).trans (heap_alloc_new w0 _)
     have e0:=ab hblk 0
     have e1:=ab hblk 1
     have e2:=ab hblk 2
     have e3:=ab hblk 3
     simp only[List.getElem?_toArray,List.getElem?_cons_zero,List.getElem?_cons_succ]at e0 e1 e2 e3
     have FY:=MR.below (MR.below x7 ((Below.refl _ _).alloc (Nat.le_refl _) _)) (cM.mono (by simp))
     by_cases pw:q<a.ag.length
     · obtain⟨tg,XD,lY,htc,vw⟩:=ax FY.1 (by show 0<a.ag.length;omega)
       simp only at XD vw
       subst XD
       have t0:=vw _ _ (fg a.ag q pw).1
       have t1:=vw _ _ (fg a.ag q pw).2
       clear vw
       generalize ht:a.ag[q]=t at t0 t1
       have HT:Hid (a.ag[q]=t):=ht
       clear ht
       by_cases sL:t.kind=1
       · cases hbh:Ax.nH (List.map Prod.fst body) t
         case false=>
          have ud:Hid (R=some a.at_):=HY.out (by
           simp only[Ax.lM,List.any_eq_true]
           exact⟨t,by rw[←HT.out];exact List.getElem_mem pw,by simp[Ax.iu,sL,hbh]⟩)
          have fC:(t.kind==1)=true:=by simp[sL]
          clear sL
          go_wp2_with (first | (go_at_call 183;refine(uI _ _ _ _ _ _ _ (MR.below FY ((Below.refl _ _).alloc (Nat.le_refl _) _)) t).mono ?_;rintro e w3 ⟨rfl,eB⟩;have oQ:=(eB.block _ (by simp;omega)).trans ((Below.heap_alloc _ _ _ (lt_of_heap hblk)).trans hblk);have g0:=ab oQ 0;simp only[List.getElem?_toArray,List.getElem?_cons_zero]at g0;have hl3:=lt_of_heap oQ;simp only[World.size_alloc]at eB))
          go_ret2
          refine⟨?_,.inl ⟨a.at_,ud.out,rfl⟩⟩
          exact((aR.alloc cr _).trans (cM.mono (by omega))).trans (((Below.refl _ _).alloc (by omega) _).trans (eB.mono (by omega)))
         case true=>
          have Ov:Hid (Ax.iu (List.map Prod.fst body) t=false):=by simp[Hid,Ax.iu,hbh]
          have fC:(t.kind==1)=true:=by simp[sL]
          clear sL
          go_wp2_with (first | (go_at_call 183;refine(uI _ _ _ _ _ _ _ (MR.below FY ((Below.refl _ _).alloc (Nat.le_refl _) _)) t).mono ?_;rintro e w3 ⟨rfl,eB⟩;have oQ:=(eB.block _ (by simp;omega)).trans ((Below.heap_alloc _ _ _ (lt_of_heap hblk)).trans hblk);have g0:=ab oQ 0;simp only[List.getElem?_toArray,List.getElem?_cons_zero]at g0;have hl3:=lt_of_heap oQ;simp only[World.size_alloc]at eB))
          go_roundw
          case rel=>
           refine⟨q+1,by omega,by go_num,cM.trans (((Below.refl _ _).alloc (by omega) _).trans (eB.mono (by omega))),fun j hj hjq=> ?_⟩
           by_cases e:j=q
           · subst e;rw[HT.out];exact Ov.out
           · exact HO.out j hj (by omega)
          case measure=>simp[intOf];omega
       · have Ov:Hid (Ax.iu (List.map Prod.fst body) t=false):=by simp[Hid,Ax.iu,sL]
         have fC:(t.kind==1)=false:=by simp[sL]
         clear sL
         go_wp2_with fail
         go_roundw
         case rel=>
          refine⟨q+1,by omega,by go_num,cM.alloc (by omega) _,fun j hj hjq=> ?_⟩
          by_cases e:j=q
          · subst e;rw[HT.out];exact Ov.out
          · exact HO.out j hj (by omega)
         case measure=>simp[intOf];omega
     · have Ti:Ax.lM ⟨a,List.map Prod.fst body⟩=false:=by
        rw[Bool.eq_false_iff]
        intro ho
        simp only[Ax.lM,List.any_eq_true]at ho
        obtain⟨t,ht,VS⟩:=ho
        obtain⟨j,hj,e⟩:=List.getElem_of_mem ht
        have:=HO.out j hj (by omega)
        rw[e,VS]at this
        cases this
       have HNN:Hid (Ax.b7 ((l.map MR.ak).drop (k+1))=R):=HN.out Ti
       clear Ti
       go_wp2_with fail
       go_roundw
       case rel=>exact⟨k+1,by omega,by go_num,(aR.alloc cr _).trans (cM.mono (by omega)),HNN.out⟩
       case measure=>simp[intOf];omega
  · have HE:Hid (R=none):=by
     have:=HR.out
     rw[List.drop_eq_nil_of_le (by simp;omega)]at this
     exact this.symm
    go_wp2_with fail
    go_ret2
    exact⟨aR,.inr ⟨HE.out,rfl⟩⟩
end
/- twoArities. -/
section
open Go.RowKit Go.Maps Go.WideMaps Go.WideElems
theorem Tryz.gD:Keyed Tryz.prog 9:=string_keyed Tryz.underlying9
theorem Tryz.CD(w:World):(zeroValue 3).run Tryz.prog w=.ok (.int .i64 0) w:=by kernel_rfl
def aY(p:ByteArray):Lit:=.string p.data.toList
theorem ku{p q:ByteArray}(h:aY p=aY q):p=q:=by
 simp only[aY,Lit.string.injEq]at h
 rcases p with⟨⟨p⟩⟩
 rcases q with⟨⟨q⟩⟩
 simp at h
 rw[h]
def yv(D:DataW Unit)(m:List (ByteArray×Nat)):Prop:=
 ∀p:ByteArray,Maps.has D (aY p)=(Ax.look m p).isSome∧∀n,Ax.look m p=some n→D.atKey (aY p) (.lit (.int .i64 0))=.lit (.int .i64 n)
theorem LL:yv (.map []) []:=fun p=>⟨rfl,fun n h=>by simp[Ax.look]at h⟩
theorem eD(m:List (ByteArray×Nat))(p q:ByteArray)(n:Nat):Ax.look ((p,n)::m) q=if p=q then some n else Ax.look m q:=by
 by_cases h:p=q<;>simp[Ax.look,List.find?_cons,h]
theorem AL{D:DataW Unit}{m:List (ByteArray×Nat)}(h:yv D m)(hD:IsMap D)(p:ByteArray)(n:Nat):yv (D.put (aY p) (.lit (.int .i64 n))) ((p,n)::m):=by
 intro q
 rw[eD]
 by_cases e:p=q
 · subst e
   rw[if_pos rfl,has_put_same hD (k:=aY p) trivial,atKey_put_same hD (k:=aY p) trivial]
   exact⟨rfl,fun k hk=>by simp at hk;rw[hk]⟩
 · have cL:aY q≠aY p:=fun h2=>e (ku h2).symm
   rw[if_neg e,has_put_other cL,atKey_put_other cL]
   exact h q
theorem Eg{D:DataW Unit}{m:List (ByteArray×Nat)}(h:yv D m)(hD:IsMap D)(p:ByteArray)(n:Nat)(hn:Ax.look m p=some n):yv (D.put (aY p) (.lit (.int .i64 n))) m:=by
 intro q
 have:=AL h hD p n q
 rw[eD]at this
 by_cases e:p=q
 · subst e
   rw[if_pos rfl]at this
   rw[hn];exact this
 · rw[if_neg e]at this
   exact this
theorem oR{w w':World}{b:Nat}{e:TypeId}{size:Nat}{v:Value}{n:Nat}{xs:List Value}{B:Nat}(h:w.ownsRow b e size v n xs)(hg:w.grownBy w' (some B)){es:Array MapEntry}{ck:Nat}(hB:w.heap[B]?=some (.map es ck)):w'.ownsRow b e size v n xs:=by
 refine h.kept hg ?_
 rcases h.2 with⟨rfl,_⟩ | ⟨g,cap,cur,rfl,_,hh,_⟩
 · exact .inl rfl
 · refine .inr fun e1=> ?_
   simp only[Value.ownBlock,Option.some.injEq]at e1
   rw[e1,hB]at hh
   simp at hh
theorem GX{w w':World}{l:List MA}{B:Nat}(h:tA w l)(hg:w.grownBy w' (some B)){es:Array MapEntry}{ck:Nat}(hB:w.heap[B]?=some (.map es ck)):tA w' l:=fun x hx=>oR (h x hx) hg hB
theorem zb{w:World}{R:Value→Option (DataW Unit×List MemPlace)}{b n:Nat}{D:DataW Unit}(h:w.ownsMap Tryz.prog 9 R b n D):∃es ck,w.heap[b]?=some (.map es ck):=by
 obtain⟨es,ck,hb,_⟩:=h
 exact⟨es,ck,hb⟩
theorem zC{w w':World}{R:Value→Option (DataW Unit×List MemPlace)}{b n:Nat}{D:DataW Unit}(h:w.ownsMap Tryz.prog 9 R b n D)(hb:Below w.heap.size w w'):w'.ownsMap Tryz.prog 9 R b n D:=h.kept (row:=none) (aT hb none) (by simp)
def TI(w wr:World)(m:List (ByteArray×Nat))(n:Nat)(L:List Ax.Atom)(R:Option Nat):Prop:=
 (∃D:DataW Unit,wr.ownsMap Tryz.prog 9 (plainElem Tryz.prog 3) w.heap.size n D∧yv D m)∧Below w.heap.size w wr∧Ax.du m L=R
theorem pg(w:World)(rd:Option Addr)(rc:Nat)(l:List MR)(h:aB w rd rc l)(wu:l.length≤1000)(l6:∀a,a∈(l.map MR.ak).flatMap Ax.aP.atoms→a.pred.size≤600):
 Calls Tryz.prog 107 #[.slice rd l.length rc] w fun e w'=>Below w.heap.size w w'∧((∃at_:Nat,Ax.du [] ((l.map MR.ak).flatMap Ax.aP.atoms)=some at_∧e=.returned (.tuple #[.int .i64 at_,.bool true]))∨(Ax.du [] ((l.map MR.ak).flatMap Ax.aP.atoms)=none∧e=.returned (.tuple #[.int .i64 0,.bool false]))):=by
 generalize hR:Ax.du [] ((l.map MR.ak).flatMap Ax.aP.atoms)=R
 have AJ:Hid (∀a,a∈(l.map MR.ak).flatMap Ax.aP.atoms→a.pred.size≤600):=l6
 clear l6
 have WQ:=@run_makeMap Tryz.prog
 go_enter Tryz.func107,Tryz.ntmps107
 go_wp2_with fail
 go_loopw [14] (fun i wr=>∃(k n:Nat) (m:List (ByteArray×Nat)),k≤l.length∧n≤1001*k∧i=.int .i64 k∧TI w wr m n (((l.map MR.ak).drop k).flatMap Ax.aP.atoms) R) (fun i _=>l.length-(intOf i).toNat)
 case atStart=>exact⟨0,0,[],Nat.zero_le _,Nat.zero_le _,rfl,⟨_,World.ownsMap_made _ _ _ _,LL⟩,(Below.refl _ _).alloc (Nat.le_refl _) _,hR⟩
 case round=>
  obtain⟨k,n,m,hk,hnk,rfl,⟨D,aj,hmi⟩,aR,hr⟩:=hrel
  have HR:Hid (Ax.du m (((l.map MR.ak).drop k).flatMap Ax.aP.atoms)=R):=hr
  clear hr hR
  obtain⟨w0,rfl⟩:∃x,x=wr:=⟨_,rfl⟩
  have cr:=aR.size
  have P6:=aj.lt
  by_cases aC:k<l.length
  · obtain⟨g,a,ad,c,bd,d,body,rfl,hg,na,d0,d1,d2,d3,x7,fE,gS⟩:=(h.below aR).at aC
    have fo:(l.map MR.ak).drop k=⟨a,List.map Prod.fst body⟩::(l.map MR.ak).drop (k+1):=by
     rw[List.drop_eq_getElem_cons (by simpa using aC)];simp[gS]
    have Tg:∀x,x∈a::List.map Prod.fst body→x.pred.size≤600:=by
     intro x hx
     refine AJ.out x ?_
     rw[←List.take_append_drop k (l.map MR.ak),fo]
     simp only[List.flatMap_append,List.flatMap_cons,List.mem_append]
     exact .inr (.inl hx)
    have HM:Hid (∀x,x∈a::List.map Prod.fst body→x.pred.size≤600):=Tg
    rw[fo,List.flatMap_cons]at HR
    clear fo gS Tg
    go_wp2_with (go_at_call 112;refine(jD _ _ _ _ _ _ _ (MR.below x7 ((Below.refl _ _).alloc (Nat.le_refl _) _)) fE).mono ?_;rintro e w1 ⟨Qz,c',rfl,pP,jt,bk⟩)
    have bK:Below w0.heap.size w0 w1:=((Below.refl _ _).alloc (Nat.le_refl _) _).trans (bk.mono (by simp))
    have bj:=zC aj bK
    have kW:=bK.size
    have rN:=aR.trans (bK.mono cr)
    clear bk x7 aj bK d0 d1 d2 d3 aR
    obtain⟨es1,ck1,SI⟩:=zb bj
    generalize hL:(a,Value.slice ad a.ag.length c)::body=L at pP jt
    have TG:L.length=body.length+1:=by rw[←hL];rfl
    have RD:L.map Prod.fst=a::body.map Prod.fst:=by rw[←hL];rfl
    have hLa:L.length≤body.length+1:=by omega
    have hLb:body.length+1≤L.length:=by omega
    have P2:Hid (Ax.du m (L.map Prod.fst++((l.map MR.ak).drop (k+1)).flatMap Ax.aP.atoms)=R):=by rw[RD];exact HR.out
    have Ws:Hid (∀x,x∈L.map Prod.fst→x.pred.size≤600):=by rw[RD];exact HM.out
    clear hL RD TG HR HM
    go_loopw [21] (fun i w2=>∃(q n':Nat) (m':List (ByteArray×Nat)),q≤L.length∧n'≤n+q∧i=.int .i64 q∧TI w w2 m' n' ((L.map Prod.fst).drop q++((l.map MR.ak).drop (k+1)).flatMap Ax.aP.atoms) R∧w1.grownBy w2 (some w.heap.size)) (fun i _=>L.length-(intOf i).toNat)
    case atStart=>exact⟨0,n,m,Nat.zero_le _,by omega,rfl,⟨⟨D,bj,hmi⟩,rN,P2.out⟩,ic _ _⟩
    case round=>
     obtain⟨q,n',m',hq,hnq,rfl,⟨⟨D',rK,XK⟩,Iz,Bw⟩,AG⟩:=hrel
     have PJ:Hid (Ax.du m' ((L.map Prod.fst).drop q++((l.map MR.ak).drop (k+1)).flatMap Ax.aP.atoms)=R):=Bw
     have Wj:Hid (yv D' m'):=XK
     have hD':=rK.isMap
     clear Bw P2 XK
     have vI:=AG.size
     have ajO:=rK.lt
     by_cases pw:q<L.length
     · have bV:=oR pP AG SI
       obtain⟨g2,rfl,dL,uw,bA⟩:=ax bV (by omega)
       have gH:=bA _ _ (bF L q pw).1
       have gC:=bA _ _ (bF L q pw).2.1
       have iD:=bA _ _ (bF L q pw).2.2
       have yV:MA.ok wr L[q]:=GX jt AG SI _ (List.getElem_mem pw)
       have qb:=aZ yV
       obtain⟨xd,xc,u7⟩:=ah yV
       rw[u7]at iD
       have fo:(L.map Prod.fst).drop q=(L[q]).1::(L.map Prod.fst).drop (q+1):=by
        rw[List.drop_eq_getElem_cons (by simpa using pw)];simp
       rw[fo,List.cons_append]at PJ
       have uK:(L[q]).1.pred.size≤600:=Ws.out _ (List.mem_map.2 ⟨_,List.getElem_mem pw,rfl⟩)
       generalize (L[q]).1=x at gH gC iD PJ uK qb
       clear u7 bA bV fo yV pP jt
       have mF:keyOf Tryz.prog 9 (.string x.pred)=some (aY x.pred):=keyOf_string_mk Tryz.underlying9 (by unfold maxLen;omega)
       have HK:Hid (keyOf Tryz.prog 9 (.string x.pred)=some (aY x.pred)):=mF
       clear mF
       cases oe:Ax.look m' x.pred with
       | none=>
        have adF:Maps.has D' (aY x.pred)=false:=by rw[(Wj.out x.pred).1,oe];rfl
        have HN:Hid (Ax.du ((x.pred,x.ag.length)::m') ((L.map Prod.fst).drop (q+1)++((l.map MR.ak).drop (k+1)).flatMap Ax.aP.atoms)=R):=by
         have:=PJ.out
         simp only[Ax.du,oe]at this
         exact this
        clear oe PJ
        go_wp2_with (first | (at_lookup;go_must (refine wpList_lookup_own_ok_int _ rfl _ _ 307 rfl 9 3 .i64 Tryz.gD Tryz.underlying307 Tryz.underlying3 (Tryz.CD _) w.heap.size n' D' rfl (rK.alloc _) _ (aY x.pred) rfl HK.out ?_;intro cc sJ hwc;clear sJ hwc)) | (at_mapUpdate;go_must (refine wpList_mapUpdate_own _ rfl _ _ _ 307 rfl 9 3 Tryz.gD Tryz.underlying307 _ w.heap.size n' D' rfl (rK.alloc _) (by unfold maxLen;omega) _ _ (aY x.pred) rfl rfl HK.out (.lit (.int .i64 x.ag.length)) [] (plainElem_int Tryz.underlying3 (WalkArith.wf_i64 (by omega))) ?_;intro w3 fG gI)))
        go_roundw
        case rel=>
         refine⟨q+1,n'+1,(x.pred,x.ag.length)::m',by omega,by omega,by go_num,⟨⟨_,fG,AL Wj.out hD' _ _⟩, ?_,HN.out⟩, ?_⟩
         · exact(Iz.alloc (by omega) _).grown gI (by simp;omega) (fun j hj=>by cases hj;exact Nat.le_refl _)
         · exact al (grownBy_alloc AG _) gI
        case measure=>simp[intOf];omega
       | some n0=>
        have adF:Maps.has D' (aY x.pred)=true:=by rw[(Wj.out x.pred).1,oe];rfl
        have Yi:Hid (D'.atKey (aY x.pred) (.lit (.int .i64 0))=.lit (.int .i64 n0)):=(Wj.out x.pred).2 n0 oe
        by_cases cL:n0=x.ag.length
        · have HN:Hid (Ax.du m' ((L.map Prod.fst).drop (q+1)++((l.map MR.ak).drop (k+1)).flatMap Ax.aP.atoms)=R):=by
           have:=PJ.out
           simp only[Ax.du,oe,cL,if_true]at this
           exact this
          have HLK:Hid (Ax.look m' x.pred=some x.ag.length):=by rw[oe,cL];rfl
          subst cL
          clear oe PJ
          go_wp2_with (first | (at_lookup;go_must (refine wpList_lookup_own_ok_int _ rfl _ _ 307 rfl 9 3 .i64 Tryz.gD Tryz.underlying307 Tryz.underlying3 (Tryz.CD _) w.heap.size n' D' rfl (rK.alloc _) _ (aY x.pred) rfl HK.out ?_;intro cc sJ hwc;obtain rfl:cc=x.ag.length:=by (rw[Yi.out]at sJ;simpa using sJ.symm))) | (at_mapUpdate;go_must (refine wpList_mapUpdate_own _ rfl _ _ _ 307 rfl 9 3 Tryz.gD Tryz.underlying307 _ w.heap.size n' D' rfl (rK.alloc _) (by unfold maxLen;omega) _ _ (aY x.pred) rfl rfl HK.out (.lit (.int .i64 x.ag.length)) [] (plainElem_int Tryz.underlying3 (WalkArith.wf_i64 (by omega))) ?_;intro w3 fG gI)))
          go_roundw
          case rel=>
           refine⟨q+1,n'+1,m',by omega,by omega,by go_num,⟨⟨_,fG,Eg Wj.out hD' _ _ HLK.out⟩, ?_,HN.out⟩, ?_⟩
           · exact(Iz.alloc (by omega) _).grown gI (by simp;omega) (fun j hj=>by cases hj;exact Nat.le_refl _)
           · exact al (grownBy_alloc AG _) gI
          case measure=>simp[intOf];omega
        · have HY:Hid (R=some x.at_):=by
           have:=PJ.out
           simp only[Ax.du,oe,cL,if_false]at this
           exact this.symm
          have Cl:((n0:Int) != (x.ag.length:Int))=true:=by simp;omega
          clear oe PJ cL
          go_wp2_with (first | (at_lookup;go_must (refine wpList_lookup_own_ok_int _ rfl _ _ 307 rfl 9 3 .i64 Tryz.gD Tryz.underlying307 Tryz.underlying3 (Tryz.CD _) w.heap.size n' D' rfl (rK.alloc _) _ (aY x.pred) rfl HK.out ?_;intro cc sJ hwc;obtain rfl:cc=n0:=by (rw[Yi.out]at sJ;simpa using sJ.symm))) | (at_mapUpdate;go_must (refine wpList_mapUpdate_own _ rfl _ _ _ 307 rfl 9 3 Tryz.gD Tryz.underlying307 _ w.heap.size n' D' rfl (rK.alloc _) (by unfold maxLen;omega) _ _ (aY x.pred) rfl rfl HK.out (.lit (.int .i64 x.ag.length)) [] (plainElem_int Tryz.underlying3 (WalkArith.wf_i64 (by omega))) ?_;intro w3 fG gI)))
          go_ret2
          exact⟨Iz.alloc (by omega) _,.inl ⟨x.at_,HY.out,rfl⟩⟩
     · have HN:Hid (Ax.du m' (((l.map MR.ak).drop (k+1)).flatMap Ax.aP.atoms)=R):=by
        have:=PJ.out
        rw[List.drop_eq_nil_of_le (by simp;omega),List.nil_append]at this
        exact this
       clear PJ
       go_wp2_with fail
       go_roundw
       case rel=>exact⟨k+1,n',m',by omega,by omega,by go_num,⟨D',rK,Wj.out⟩,Iz,HN.out⟩
       case measure=>simp[intOf];omega
  · have HE:Hid (R=none):=by
     have:=HR.out
     rw[List.drop_eq_nil_of_le (by simp;omega)]at this
     exact this.symm
    go_wp2_with fail
    go_ret2
    exact⟨aR,.inr ⟨HE.out,rfl⟩⟩
end
end Go.Proofs.YtdmicblafmhflaaGreatDoor
