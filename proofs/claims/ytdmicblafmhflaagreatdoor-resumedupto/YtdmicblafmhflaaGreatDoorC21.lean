/- tooMany. -/
import Derived.Test.YtdmicblafmhflaaGreatDoorC14
import Derived.Test.YtdmicblafmhflaaGreatDoorC00
import Derived.Maps.Own
import Derived.Maps.OwnOps
import Derived.Maps.OwnSet
import Derived.Maps.Views
import Derived.StringKeys
set_option linter.unusedSimpArgs false
set_option linter.unusedVariables false
set_option maxHeartbeats 2000000
set_option maxRecDepth 100000
namespace Go.Proofs.YtdmicblafmhflaaGreatDoor
section
open Go.RowKit
theorem pX(l:List MR)(k:Nat)(h:k<l.length):
 (cJ l)[k*4]?=some (.int .i64 (l[k]).head.1.at_)∧(cJ l)[k*4+1]?=some (.string (l[k]).head.1.pred)∧(cJ l)[k*4+2]?=some (l[k]).head.2∧(cJ l)[k*4+3]?=some (l[k]).bv:=by
 induction l generalizing k with
 | nil=>simp at h
 | cons a l ih=>
  cases k with
  | zero=>simp[cJ]
  | succ k=>
   have:=ih k (by simpa using h)
   have e:∀j,(cJ (a::l))[(k+1)*4+j]?=(cJ l)[k*4+j]?:=by
    intro j
    have:cJ (a::l)=[.int .i64 a.head.1.at_,.string a.head.1.pred,a.head.2,a.bv]++cJ l:=by simp[cJ]
    rw[this,List.getElem?_append_right (by simp;omega)]
    congr 1
    simp;omega
   have e0:=e 0
   simp only[Nat.add_zero]at e0
   rw[e0,e 1,e 2,e 3]
   simpa using this
def aX(w:World)(rd:Option Addr)(rc:Nat)(l:List MR):Prop:=
 w.ownsRow 0 222 4 (.slice rd l.length rc) l.length (cJ l)∧Iv w l∧∀r,r∈l→r.body.length≤1000
theorem aX.below{w w':World}{rd:Option Addr}{rc:Nat}{l:List MR}(h:aX w rd rc l)(hb:Below w.heap.size w w'):aX w' rd rc l:=⟨ah h.1 hb,o9 h.2.1 hb,h.2.2⟩
theorem aX.at{w:World}{rd:Option Addr}{rc:Nat}{l:List MR}(h:aX w rd rc l){k:Nat}(hk:k<l.length):
 ∃g a ad c bd d body,rd=some ⟨g,0,none⟩∧g<w.heap.size∧l.length≤rc∧w.cell? ⟨g,k*4,none⟩=some (.int .i64 (Ax.Atom.at_ a))∧w.cell? ⟨g,k*4+1,none⟩=some (.string a.pred)∧w.cell? ⟨g,k*4+2,none⟩=some (.slice ad a.ak.length c)∧
  w.cell? ⟨g,k*4+3,none⟩=some (.slice bd body.length d)∧MR.ok w ⟨(a,.slice ad a.ak.length c),.slice bd body.length d,body⟩∧body.length≤1000∧(l[k]).ay=⟨a,List.map Prod.fst body⟩:=by
 obtain⟨g,rfl,hg,hc,br⟩:=aD h.1 (by omega)
 have hm:=List.getElem_mem hk
 have dj:=h.2.1 _ hm
 have ff:=h.2.2 _ hm
 obtain⟨c0,c1,c2,c3⟩:=pX l k hk
 generalize l[k]=r at*
 rcases r with⟨⟨a,hv⟩,bv,body⟩
 obtain⟨ad,c,e1⟩:=aj dj.1
 obtain⟨bd,d,e2⟩:=aj dj.2.1
 simp only at e1 e2
 subst e1 e2
 exact⟨g,a,ad,c,bd,d,body,rfl,hg,hc,br _ _ c0,br _ _ c1,br _ _ c2,br _ _ c3,dj,ff,rfl⟩
theorem PB{i:Nat}{ps:List ByteArray}{r:Ax.bD}(h:8≤i):Ax.gC i ps r=true:=by simp[Ax.gC,h]
theorem Jb{i:Nat}{ps:List ByteArray}{r:Ax.bD}(h:2<r.body.length):Ax.gC i ps r=true:=by simp[Ax.gC,h]
theorem Gm{i:Nat}{ps:List ByteArray}{r:Ax.bD}(h:6<ps.length):Ax.gC i ps r=true:=by simp[Ax.gC,h]
theorem JY{i:Nat}{ps:List ByteArray}{r:Ax.bD}(h:Ax.jj r.atoms=true):Ax.gC i ps r=true:=by simp[Ax.gC,h]
theorem Kt{i:Nat}{ps:List ByteArray}{r:Ax.bD}(h1:¬8≤i)(h2:¬2<r.body.length)(h3:¬6<ps.length)(h4:Ax.jj r.atoms=false):Ax.gC i ps r=false:=by simp[Ax.gC,h1,h2,h3,h4]
def TT(w wr:World)(v:Value)(ps:List ByteArray)(k:Nat)(L:List Ax.bD)(R:Option Nat):Prop:=
 wr.ownsRow w.heap.size 9 1 v ps.length (strCells ps)∧Below w.heap.size w wr∧ps.length≤6∧Ax.dd k ps (L.drop k)=R
theorem C9(w:World)(rd:Option Addr)(rc:Nat)(l:List MR)(h:aX w rd rc l):
 Calls Tryz.prog 106 #[.slice rd l.length rc] w fun e w'=>Below w.heap.size w w'∧((∃at_:Nat,Ax.dd 0 [] (l.map MR.ay)=some at_∧e=.returned (.tuple #[.int .i64 at_,.bool true]))∨(Ax.dd 0 [] (l.map MR.ay)=none∧e=.returned (.tuple #[.int .i64 0,.bool false]))):=by
 have hle:=be h.1
 generalize hR:Ax.dd 0 [] (l.map MR.ay)=R
 go_enter Tryz.func106,Tryz.ntmps106
 go_wp2_with fail
 go_loopw [4,9] (fun v i wr=>∃(k:Nat) (ps:List ByteArray),k≤l.length∧i=.int .i64 k∧TT w wr v ps k (l.map MR.ay) R) (fun _ i _=>l.length-(intOf i).toNat)
 case atStart=>exact⟨0,[],Nat.zero_le _,rfl,World.ownsRow_nil _ _ _ _,Below.refl _ _,Nat.zero_le _,hR⟩
 case round=>
  obtain⟨k,ps,hk,rfl,au,aV,la,hr⟩:=hrel
  have HR:Hid (Ax.dd k ps ((l.map MR.ay).drop k)=R):=hr
  clear hr hR
  obtain⟨pd,pc,Y3⟩:=aj au
  subst Y3
  have cR:=aV.size
  by_cases aG:k<l.length
  · obtain⟨g,a,ad,c,bd,d,body,rfl,hg,ll,d0,d1,d2,d3,xK,ff,gV⟩:=(h.below aV).at aG
    have fq:(l.map MR.ay).drop k=⟨a,List.map Prod.fst body⟩::(l.map MR.ay).drop (k+1):=by
     rw[List.drop_eq_getElem_cons (by simpa using aG)];simp[gV]
    rw[fq]at HR
    clear fq gV
    obtain⟨qs,Fh⟩:∃qs,Ax.de ps (a::List.map Prod.fst body)=qs:=⟨_,rfl⟩
    have HQ:Hid (Ax.de ps (a::List.map Prod.fst body)=qs):=Fh
    clear Fh
    have pB:Ax.gC k qs ⟨a,List.map Prod.fst body⟩=true→R=some a.at_:=by
     intro hm
     have:=HR.out
     simp only[Ax.dd,Ax.bD.atoms,HQ.out,hm,if_true]at this
     exact this.symm
    have jK:Ax.gC k qs ⟨a,List.map Prod.fst body⟩=false→Ax.dd (k+1) qs ((l.map MR.ay).drop (k+1))=R:=by
     intro hm
     have:=HR.out
     simp only[Ax.dd,Ax.bD.atoms,HQ.out,hm,Bool.false_eq_true,if_false]at this
     exact this
    by_cases h8:8≤k
    · have HY:Hid (R=some a.at_):=pB (PB h8)
      clear pB jK HR
      go_wp2_with (first | (go_at_call 180;refine(iG w.heap.size _ pd pc ps _ _ _ _ _ _ (MR.below xK ((Below.refl _ _).alloc (Nat.le_refl _) _)) ff (by simp;omega) (au.alloc _) (by omega)).mono ?_;rintro e w2 ⟨qd,qc,Pw,rfl,Fh,aP,fS,mc,Fl⟩;have BR:Pw=qs:=Fh.out.trans HQ.out;subst BR;have hblk:=mc _ _ (heap_alloc_new wr _) (by simp) (by intro c fz e1;simp at e1);have wX:=fS.size;have e0:=ag hblk 0;have e1:=ag hblk 1;have e2:=ag hblk 2;have e3:=ag hblk 3;simp only[List.getElem?_toArray,List.getElem?_cons_zero,List.getElem?_cons_succ]at e0 e1 e2 e3;simp only[World.size_alloc]at wX))
      go_ret2
      exact⟨(aV.alloc cR _).trans fS,.inl ⟨a.at_,HY.out,rfl⟩⟩
    · by_cases h2:2<body.length
      · have HY:Hid (R=some a.at_):=pB (Jb (by simpa using h2))
        clear pB jK HR
        go_wp2_with (first | (go_at_call 180;refine(iG w.heap.size _ pd pc ps _ _ _ _ _ _ (MR.below xK ((Below.refl _ _).alloc (Nat.le_refl _) _)) ff (by simp;omega) (au.alloc _) (by omega)).mono ?_;rintro e w2 ⟨qd,qc,Pw,rfl,Fh,aP,fS,mc,Fl⟩;have BR:Pw=qs:=Fh.out.trans HQ.out;subst BR;have hblk:=mc _ _ (heap_alloc_new wr _) (by simp) (by intro c fz e1;simp at e1);have wX:=fS.size;have e0:=ag hblk 0;have e1:=ag hblk 1;have e2:=ag hblk 2;have e3:=ag hblk 3;simp only[List.getElem?_toArray,List.getElem?_cons_zero,List.getElem?_cons_succ]at e0 e1 e2 e3;simp only[World.size_alloc]at wX))
        go_ret2
        exact⟨(aV.alloc cR _).trans fS,.inl ⟨a.at_,HY.out,rfl⟩⟩
      · by_cases h6:6<qs.length
        · have HY:Hid (R=some a.at_):=pB (Gm h6)
          clear pB jK HR
          go_wp2_with (first | (go_at_call 180;refine(iG w.heap.size _ pd pc ps _ _ _ _ _ _ (MR.below xK ((Below.refl _ _).alloc (Nat.le_refl _) _)) ff (by simp;omega) (au.alloc _) (by omega)).mono ?_;rintro e w2 ⟨qd,qc,Pw,rfl,Fh,aP,fS,mc,Fl⟩;have BR:Pw=qs:=Fh.out.trans HQ.out;subst BR;have hblk:=mc _ _ (heap_alloc_new wr _) (by simp) (by intro c fz e1;simp at e1);have wX:=fS.size;have e0:=ag hblk 0;have e1:=ag hblk 1;have e2:=ag hblk 2;have e3:=ag hblk 3;simp only[List.getElem?_toArray,List.getElem?_cons_zero,List.getElem?_cons_succ]at e0 e1 e2 e3;simp only[World.size_alloc]at wX))
          go_ret2
          exact⟨(aV.alloc cR _).trans fS,.inl ⟨a.at_,HY.out,rfl⟩⟩
        · cases VU:Ax.jj (a::List.map Prod.fst body)
          case true=>
           have HY:Hid (R=some a.at_):=pB (JY VU)
           clear pB jK HR
           go_wp2_with (first | (go_at_call 180;refine(iG w.heap.size _ pd pc ps _ _ _ _ _ _ (MR.below xK ((Below.refl _ _).alloc (Nat.le_refl _) _)) ff (by simp;omega) (au.alloc _) (by omega)).mono ?_;rintro e w2 ⟨qd,qc,Pw,rfl,Fh,aP,fS,mc,Fl⟩;have BR:Pw=qs:=Fh.out.trans HQ.out;subst BR;have hblk:=mc _ _ (heap_alloc_new wr _) (by simp) (by intro c fz e1;simp at e1);have wX:=fS.size;have e0:=ag hblk 0;have e1:=ag hblk 1;have e2:=ag hblk 2;have e3:=ag hblk 3;simp only[List.getElem?_toArray,List.getElem?_cons_zero,List.getElem?_cons_succ]at e0 e1 e2 e3;simp only[World.size_alloc]at wX;have Fp:=MR.others (MR.below xK ((Below.refl _ _).alloc (Nat.le_refl _) _)) mc (by decide) (by decide)) | (go_at_call 112;refine(jD _ _ _ _ _ _ _ Fp ff).mono ?_;rintro e w3 ⟨ad3,c3,rfl,pO,jC,fH⟩;have WD:=bT (e:=9) fH;have oQ:=(fH.block _ (lt_of_heap hblk)).trans hblk) | (go_at_call 181;refine(mu w3 0 ad3 c3 ((a,.slice ad a.ak.length c)::body) (by exact pO) jC).mono ?_;rintro e w4 ⟨rfl,qX⟩;have hw:Ax.jj (((a,Value.slice ad a.ak.length c)::body).map Prod.fst)=true:=VU;rw[hw];have Cn:=(qX.block _ (lt_of_heap oQ)).trans oQ;have g0:=ag Cn 0;simp only[List.getElem?_toArray,List.getElem?_cons_zero]at g0;have aee:=lt_of_heap Cn))
           go_ret2
           exact⟨(((aV.alloc cR _).trans fS).trans (fH.mono (by omega))).trans (qX.mono (by have:=fH.size;omega)),.inl ⟨a.at_,HY.out,rfl⟩⟩
          case false=>
           have HN:Hid (Ax.dd (k+1) qs ((l.map MR.ay).drop (k+1))=R):=jK (Kt h8 (by simpa using h2) h6 VU)
           clear pB jK HR
           go_wp2_with (first | (go_at_call 180;refine(iG w.heap.size _ pd pc ps _ _ _ _ _ _ (MR.below xK ((Below.refl _ _).alloc (Nat.le_refl _) _)) ff (by simp;omega) (au.alloc _) (by omega)).mono ?_;rintro e w2 ⟨qd,qc,Pw,rfl,Fh,aP,fS,mc,Fl⟩;have BR:Pw=qs:=Fh.out.trans HQ.out;subst BR;have hblk:=mc _ _ (heap_alloc_new wr _) (by simp) (by intro c fz e1;simp at e1);have wX:=fS.size;have e0:=ag hblk 0;have e1:=ag hblk 1;have e2:=ag hblk 2;have e3:=ag hblk 3;simp only[List.getElem?_toArray,List.getElem?_cons_zero,List.getElem?_cons_succ]at e0 e1 e2 e3;simp only[World.size_alloc]at wX;have Fp:=MR.others (MR.below xK ((Below.refl _ _).alloc (Nat.le_refl _) _)) mc (by decide) (by decide)) | (go_at_call 112;refine(jD _ _ _ _ _ _ _ Fp ff).mono ?_;rintro e w3 ⟨ad3,c3,rfl,pO,jC,fH⟩;have WD:=bT (e:=9) fH;have oQ:=(fH.block _ (lt_of_heap hblk)).trans hblk) | (go_at_call 181;refine(mu w3 0 ad3 c3 ((a,.slice ad a.ak.length c)::body) (by exact pO) jC).mono ?_;rintro e w4 ⟨rfl,qX⟩;have hw:Ax.jj (((a,Value.slice ad a.ak.length c)::body).map Prod.fst)=false:=VU;rw[hw];have Cn:=(qX.block _ (lt_of_heap oQ)).trans oQ;have g0:=ag Cn 0;simp only[List.getElem?_toArray,List.getElem?_cons_zero]at g0;have aee:=lt_of_heap Cn))
           go_roundw
           case rel=>
            exact⟨k+1,Pw,by omega,by go_num,ah (ah aP fH) qX,(((aV.alloc cR _).trans fS).trans (fH.mono (by omega))).trans (qX.mono (by have:=fH.size;omega)),by omega,HN.out⟩
           case measure=>simp[intOf];omega
  · have HE:Hid (R=none):=by
     have:=HR.out
     rw[List.drop_eq_nil_of_le (by simp;omega)]at this
     exact this.symm
    go_wp2_with fail
    go_ret2
    exact⟨aV,.inr ⟨HE.out,rfl⟩⟩
end
/- openHead. -/
section
open Go.RowKit
theorem Bl(w:World)(rd:Option Addr)(rc:Nat)(l:List MR)(h:aX w rd rc l):
 Calls Tryz.prog 108 #[.slice rd l.length rc] w fun e w'=>Below w.heap.size w w'∧((∃at_:Nat,Ax.cK (l.map MR.ay)=some at_∧e=.returned (.tuple #[.int .i64 at_,.bool true]))∨(Ax.cK (l.map MR.ay)=none∧e=.returned (.tuple #[.int .i64 0,.bool false]))):=by
 have hle:=be h.1
 generalize hR:Ax.cK (l.map MR.ay)=R
 go_enter Tryz.func108,Tryz.ntmps108
 go_wp2_with fail
 go_loopw [10] (fun i wr=>∃(k:Nat),k≤l.length∧i=.int .i64 k∧Below w.heap.size w wr∧Ax.cK ((l.map MR.ay).drop k)=R) (fun i _=>l.length-(intOf i).toNat)
 case atStart=>exact⟨0,Nat.zero_le _,rfl,Below.refl _ _,hR⟩
 case round=>
  obtain⟨k,hk,rfl,aV,hr⟩:=hrel
  have HR:Hid (Ax.cK ((l.map MR.ay).drop k)=R):=hr
  clear hr hR
  obtain⟨w0,rfl⟩:∃x,x=wr:=⟨_,rfl⟩
  have cR:=aV.size
  by_cases aG:k<l.length
  · obtain⟨g,a,ad,c,bd,d,body,rfl,hg,ll,d0,d1,d2,d3,xK,ff,gV⟩:=(h.below aV).at aG
    have fq:(l.map MR.ay).drop k=⟨a,List.map Prod.fst body⟩::(l.map MR.ay).drop (k+1):=by
     rw[List.drop_eq_getElem_cons (by simpa using aG)];simp[gV]
    rw[fq]at HR
    clear fq gV
    have pB:Ax.lU ⟨a,List.map Prod.fst body⟩=true→R=some a.at_:=by
     intro hm
     have:=HR.out
     simp only[Ax.cK,hm,if_true]at this
     exact this.symm
    have jK:Ax.lU ⟨a,List.map Prod.fst body⟩=false→Ax.cK ((l.map MR.ay).drop (k+1))=R:=by
     intro hm
     have:=HR.out
     simp only[Ax.cK,hm,Bool.false_eq_true,if_false]at this
     exact this
    have HY:Hid (Ax.lU ⟨a,List.map Prod.fst body⟩=true→R=some a.at_):=pB
    have HN:Hid (Ax.lU ⟨a,List.map Prod.fst body⟩=false→Ax.cK ((l.map MR.ay).drop (k+1))=R):=jK
    clear pB jK HR
    have Ri:=be xK.1
    simp only at Ri
    go_wp2_with fail
    go_loopw [18] (fun i w2=>∃(q:Nat),q≤a.ak.length∧i=.int .i64 q∧Below (w0.heap.size+1) (w0.alloc (.cells #[.int .i64 a.at_,.string a.pred,.slice ad a.ak.length c,.slice bd body.length d] 222)) w2∧∀j (hj:j<a.ak.length),j<q→Ax.ib (List.map Prod.fst body) a.ak[j]=false) (fun i _=>a.ak.length-(intOf i).toNat)
    case atStart=>exact⟨0,Nat.zero_le _,rfl,Below.refl _ _,fun j _ hj=>by omega⟩
    case round=>
     obtain⟨q,hq,rfl,cw,jK⟩:=hrel
     have HO:Hid (∀j (hj:j<a.ak.length),j<q→Ax.ib (List.map Prod.fst body) a.ak[j]=false):=jK
     clear jK
     have wX:=cw.size
     simp only[World.size_alloc]at wX
     have ajK:w0.heap.size<wr.heap.size:=by omega
     have hblk:=(cw.block _ (by omega)).trans (heap_alloc_new w0 _)
     have e0:=ag hblk 0
     have e1:=ag hblk 1
     have e2:=ag hblk 2
     have e3:=ag hblk 3
     simp only[List.getElem?_toArray,List.getElem?_cons_zero,List.getElem?_cons_succ]at e0 e1 e2 e3
     have Fp:=MR.below (MR.below xK ((Below.refl _ _).alloc (Nat.le_refl _) _)) (cw.mono (by simp))
     by_cases mL:q<a.ak.length
     · obtain⟨tg,Ww,lX,htc,vf⟩:=aD Fp.1 (by show 0<a.ak.length;omega)
       simp only at Ww vf
       subst Ww
       have t0:=vf _ _ (fh a.ak q mL).1
       have t1:=vf _ _ (fh a.ak q mL).2
       clear vf
       generalize ht:a.ak[q]=t at t0 t1
       have HT:Hid (a.ak[q]=t):=ht
       clear ht
       by_cases nV:t.kind=1
       · cases hbh:Ax.mZ (List.map Prod.fst body) t
         case false=>
          have sO:Hid (R=some a.at_):=HY.out (by
           simp only[Ax.lU,List.any_eq_true]
           exact⟨t,by rw[←HT.out];exact List.getElem_mem mL,by simp[Ax.ib,nV,hbh]⟩)
          have fK:(t.kind==1)=true:=by simp[nV]
          clear nV
          go_wp2_with (first | (go_at_call 183;refine(ui _ _ _ _ _ _ _ (MR.below Fp ((Below.refl _ _).alloc (Nat.le_refl _) _)) t).mono ?_;rintro e w3 ⟨rfl,fH⟩;have oQ:=(fH.block _ (by simp;omega)).trans ((Below.heap_alloc _ _ _ (lt_of_heap hblk)).trans hblk);have g0:=ag oQ 0;simp only[List.getElem?_toArray,List.getElem?_cons_zero]at g0;have ZO:=lt_of_heap oQ;simp only[World.size_alloc]at fH))
          go_ret2
          refine⟨?_,.inl ⟨a.at_,sO.out,rfl⟩⟩
          exact((aV.alloc cR _).trans (cw.mono (by omega))).trans (((Below.refl _ _).alloc (by omega) _).trans (fH.mono (by omega)))
         case true=>
          have Nw:Hid (Ax.ib (List.map Prod.fst body) t=false):=by simp[Hid,Ax.ib,hbh]
          have fK:(t.kind==1)=true:=by simp[nV]
          clear nV
          go_wp2_with (first | (go_at_call 183;refine(ui _ _ _ _ _ _ _ (MR.below Fp ((Below.refl _ _).alloc (Nat.le_refl _) _)) t).mono ?_;rintro e w3 ⟨rfl,fH⟩;have oQ:=(fH.block _ (by simp;omega)).trans ((Below.heap_alloc _ _ _ (lt_of_heap hblk)).trans hblk);have g0:=ag oQ 0;simp only[List.getElem?_toArray,List.getElem?_cons_zero]at g0;have ZO:=lt_of_heap oQ;simp only[World.size_alloc]at fH))
          go_roundw
          case rel=>
           refine⟨q+1,by omega,by go_num,cw.trans (((Below.refl _ _).alloc (by omega) _).trans (fH.mono (by omega))),fun j hj hjq=> ?_⟩
           by_cases e:j=q
           · subst e;rw[HT.out];exact Nw.out
           · exact HO.out j hj (by omega)
          case measure=>simp[intOf];omega
       · have Nw:Hid (Ax.ib (List.map Prod.fst body) t=false):=by simp[Hid,Ax.ib,nV]
         have fK:(t.kind==1)=false:=by simp[nV]
         clear nV
         go_wp2_with fail
         go_roundw
         case rel=>
          refine⟨q+1,by omega,by go_num,cw.alloc (by omega) _,fun j hj hjq=> ?_⟩
          by_cases e:j=q
          · subst e;rw[HT.out];exact Nw.out
          · exact HO.out j hj (by omega)
         case measure=>simp[intOf];omega
     · have RD:Ax.lU ⟨a,List.map Prod.fst body⟩=false:=by
        rw[Bool.eq_false_iff]
        intro ho
        simp only[Ax.lU,List.any_eq_true]at ho
        obtain⟨t,ht,TL⟩:=ho
        obtain⟨j,hj,e⟩:=List.getElem_of_mem ht
        have:=HO.out j hj (by omega)
        rw[e,TL]at this
        cases this
       have HNN:Hid (Ax.cK ((l.map MR.ay).drop (k+1))=R):=HN.out RD
       clear RD
       go_wp2_with fail
       go_roundw
       case rel=>exact⟨k+1,by omega,by go_num,(aV.alloc cR _).trans (cw.mono (by omega)),HNN.out⟩
       case measure=>simp[intOf];omega
  · have HE:Hid (R=none):=by
     have:=HR.out
     rw[List.drop_eq_nil_of_le (by simp;omega)]at this
     exact this.symm
    go_wp2_with fail
    go_ret2
    exact⟨aV,.inr ⟨HE.out,rfl⟩⟩
end
/- twoArities. -/
section
open Go.RowKit Go.Maps Go.WideMaps Go.WideElems
theorem Tryz.gJ:Keyed Tryz.prog 9:=string_keyed Tryz.underlying9
theorem Tryz.BI(w:World):(zeroValue 3).run Tryz.prog w=.ok (.int .i64 0) w:=by kernel_rfl
def bh(p:ByteArray):Lit:=.string p.data.toList
theorem km{p q:ByteArray}(h:bh p=bh q):p=q:=by
 simp only[bh,Lit.string.injEq]at h
 rcases p with⟨⟨p⟩⟩
 rcases q with⟨⟨q⟩⟩
 simp at h
 rw[h]
def vK(D:DataW Unit)(m:List (ByteArray×Nat)):Prop:=
 ∀p:ByteArray,Maps.has D (bh p)=(Ax.look m p).isSome∧∀n,Ax.look m p=some n→D.atKey (bh p) (.lit (.int .i64 0))=.lit (.int .i64 n)
theorem I1:vK (.map []) []:=fun p=>⟨rfl,fun n h=>by simp[Ax.look]at h⟩
theorem iS(m:List (ByteArray×Nat))(p q:ByteArray)(n:Nat):Ax.look ((p,n)::m) q=if p=q then some n else Ax.look m q:=by
 by_cases h:p=q<;>simp[Ax.look,List.find?_cons,h]
theorem AJ{D:DataW Unit}{m:List (ByteArray×Nat)}(h:vK D m)(hD:IsMap D)(p:ByteArray)(n:Nat):vK (D.put (bh p) (.lit (.int .i64 n))) ((p,n)::m):=by
 intro q
 rw[iS]
 by_cases e:p=q
 · subst e
   rw[if_pos rfl,has_put_same hD (k:=bh p) trivial,atKey_put_same hD (k:=bh p) trivial]
   exact⟨rfl,fun k hk=>by simp at hk;rw[hk]⟩
 · have cE:bh q≠bh p:=fun h2=>e (km h2).symm
   rw[if_neg e,has_put_other cE,atKey_put_other cE]
   exact h q
theorem CG{D:DataW Unit}{m:List (ByteArray×Nat)}(h:vK D m)(hD:IsMap D)(p:ByteArray)(n:Nat)(hn:Ax.look m p=some n):vK (D.put (bh p) (.lit (.int .i64 n))) m:=by
 intro q
 have:=AJ h hD p n q
 rw[iS]at this
 by_cases e:p=q
 · subst e
   rw[if_pos rfl]at this
   rw[hn];exact this
 · rw[if_neg e]at this
   exact this
theorem ou{w w':World}{b:Nat}{e:TypeId}{size:Nat}{v:Value}{n:Nat}{xs:List Value}{B:Nat}(h:w.ownsRow b e size v n xs)(hg:w.grownBy w' (some B)){es:Array MapEntry}{ck:Nat}(hB:w.heap[B]?=some (.map es ck)):w'.ownsRow b e size v n xs:=by
 refine h.kept hg ?_
 rcases h.2 with⟨rfl,_⟩ | ⟨g,cap,cur,rfl,_,hh,_⟩
 · exact .inl rfl
 · refine .inr fun e1=> ?_
   simp only[Value.ownBlock,Option.some.injEq]at e1
   rw[e1,hB]at hh
   simp at hh
theorem EW{w w':World}{l:List MA}{B:Nat}(h:te w l)(hg:w.grownBy w' (some B)){es:Array MapEntry}{ck:Nat}(hB:w.heap[B]?=some (.map es ck)):te w' l:=fun x hx=>ou (h x hx) hg hB
theorem yq{w:World}{R:Value→Option (DataW Unit×List MemPlace)}{b n:Nat}{D:DataW Unit}(h:w.ownsMap Tryz.prog 9 R b n D):∃es ck,w.heap[b]?=some (.map es ck):=by
 obtain⟨es,ck,hb,_⟩:=h
 exact⟨es,ck,hb⟩
theorem yQ{w w':World}{R:Value→Option (DataW Unit×List MemPlace)}{b n:Nat}{D:DataW Unit}(h:w.ownsMap Tryz.prog 9 R b n D)(hb:Below w.heap.size w w'):w'.ownsMap Tryz.prog 9 R b n D:=h.kept (row:=none) (aW hb none) (by simp)
def RQ(w wr:World)(m:List (ByteArray×Nat))(n:Nat)(L:List Ax.Atom)(R:Option Nat):Prop:=
 (∃D:DataW Unit,wr.ownsMap Tryz.prog 9 (plainElem Tryz.prog 3) w.heap.size n D∧vK D m)∧Below w.heap.size w wr∧Ax.eN m L=R
theorem xR(w:World)(rd:Option Addr)(rc:Nat)(l:List MR)(h:aX w rd rc l)(G2:l.length≤1000)(pa:∀a,a∈(l.map MR.ay).flatMap Ax.bD.atoms→a.pred.size≤600):
 Calls Tryz.prog 107 #[.slice rd l.length rc] w fun e w'=>Below w.heap.size w w'∧((∃at_:Nat,Ax.eN [] ((l.map MR.ay).flatMap Ax.bD.atoms)=some at_∧e=.returned (.tuple #[.int .i64 at_,.bool true]))∨(Ax.eN [] ((l.map MR.ay).flatMap Ax.bD.atoms)=none∧e=.returned (.tuple #[.int .i64 0,.bool false]))):=by
 generalize hR:Ax.eN [] ((l.map MR.ay).flatMap Ax.bD.atoms)=R
 have zU:Hid (∀a,a∈(l.map MR.ay).flatMap Ax.bD.atoms→a.pred.size≤600):=pa
 clear pa
 have VE:=@run_makeMap Tryz.prog
 go_enter Tryz.func107,Tryz.ntmps107
 go_wp2_with fail
 go_loopw [14] (fun i wr=>∃(k n:Nat) (m:List (ByteArray×Nat)),k≤l.length∧n≤1001*k∧i=.int .i64 k∧RQ w wr m n (((l.map MR.ay).drop k).flatMap Ax.bD.atoms) R) (fun i _=>l.length-(intOf i).toNat)
 case atStart=>exact⟨0,0,[],Nat.zero_le _,Nat.zero_le _,rfl,⟨_,World.ownsMap_made _ _ _ _,I1⟩,(Below.refl _ _).alloc (Nat.le_refl _) _,hR⟩
 case round=>
  obtain⟨k,n,m,hk,ZI,rfl,⟨D,au,hmi⟩,aV,hr⟩:=hrel
  have HR:Hid (Ax.eN m (((l.map MR.ay).drop k).flatMap Ax.bD.atoms)=R):=hr
  clear hr hR
  obtain⟨w0,rfl⟩:∃x,x=wr:=⟨_,rfl⟩
  have cR:=aV.size
  have O6:=au.lt
  by_cases aG:k<l.length
  · obtain⟨g,a,ad,c,bd,d,body,rfl,hg,ll,d0,d1,d2,d3,xK,ff,gV⟩:=(h.below aV).at aG
    have fq:(l.map MR.ay).drop k=⟨a,List.map Prod.fst body⟩::(l.map MR.ay).drop (k+1):=by
     rw[List.drop_eq_getElem_cons (by simpa using aG)];simp[gV]
    have RW:∀x,x∈a::List.map Prod.fst body→x.pred.size≤600:=by
     intro x hx
     refine zU.out x ?_
     rw[←List.take_append_drop k (l.map MR.ay),fq]
     simp only[List.flatMap_append,List.flatMap_cons,List.mem_append]
     exact .inr (.inl hx)
    have HM:Hid (∀x,x∈a::List.map Prod.fst body→x.pred.size≤600):=RW
    rw[fq,List.flatMap_cons]at HR
    clear fq gV RW
    go_wp2_with (go_at_call 112;refine(jD _ _ _ _ _ _ _ (MR.below xK ((Below.refl _ _).alloc (Nat.le_refl _) _)) ff).mono ?_;rintro e w1 ⟨Qg,c',rfl,pO,jC,bq⟩)
    have bU:Below w0.heap.size w0 w1:=((Below.refl _ _).alloc (Nat.le_refl _) _).trans (bq.mono (by simp))
    have bH:=yQ au bU
    have kV:=bU.size
    have rq:=aV.trans (bU.mono cR)
    clear bq xK au bU d0 d1 d2 d3 aV
    obtain⟨es1,Sq,RX⟩:=yq bH
    generalize hL:(a,Value.slice ad a.ak.length c)::body=L at pO jC
    have Ry:L.length=body.length+1:=by rw[←hL];rfl
    have P8:L.map Prod.fst=a::body.map Prod.fst:=by rw[←hL];rfl
    have hLa:L.length≤body.length+1:=by omega
    have hLb:body.length+1≤L.length:=by omega
    have Kp:Hid (Ax.eN m (L.map Prod.fst++((l.map MR.ay).drop (k+1)).flatMap Ax.bD.atoms)=R):=by rw[P8];exact HR.out
    have V7:Hid (∀x,x∈L.map Prod.fst→x.pred.size≤600):=by rw[P8];exact HM.out
    clear hL P8 Ry HR HM
    go_loopw [21] (fun i w2=>∃(q n':Nat) (m':List (ByteArray×Nat)),q≤L.length∧n'≤n+q∧i=.int .i64 q∧RQ w w2 m' n' ((L.map Prod.fst).drop q++((l.map MR.ay).drop (k+1)).flatMap Ax.bD.atoms) R∧w1.grownBy w2 (some w.heap.size)) (fun i _=>L.length-(intOf i).toNat)
    case atStart=>exact⟨0,n,m,Nat.zero_le _,by omega,rfl,⟨⟨D,bH,hmi⟩,rq,Kp.out⟩,il _ _⟩
    case round=>
     obtain⟨q,n',m',hq,hnq,rfl,⟨⟨D',qO,WL⟩,Ik,zm⟩,zZ⟩:=hrel
     have Pm:Hid (Ax.eN m' ((L.map Prod.fst).drop q++((l.map MR.ay).drop (k+1)).flatMap Ax.bD.atoms)=R):=zm
     have VH:Hid (vK D' m'):=WL
     have hD':=qO.isMap
     clear zm Kp WL
     have yH:=zZ.size
     have aj2:=qO.lt
     by_cases mL:q<L.length
     · have bF:=ou pO zZ RX
       obtain⟨g2,rfl,eE,qD,br⟩:=aD bF (by omega)
       have gB:=br _ _ (bL L q mL).1
       have gH:=br _ _ (bL L q mL).2.1
       have iz:=br _ _ (bL L q mL).2.2
       have yb:MA.ok wr L[q]:=EW jC zZ RX _ (List.getElem_mem mL)
       have oP:=be yb
       obtain⟨xd,xc,sL⟩:=aj yb
       rw[sL]at iz
       have fq:(L.map Prod.fst).drop q=(L[q]).1::(L.map Prod.fst).drop (q+1):=by
        rw[List.drop_eq_getElem_cons (by simpa using mL)];simp
       rw[fq,List.cons_append]at Pm
       have sI:(L[q]).1.pred.size≤600:=V7.out _ (List.mem_map.2 ⟨_,List.getElem_mem mL,rfl⟩)
       generalize (L[q]).1=x at gB gH iz Pm sI oP
       clear sL br bF fq yb pO jC
       have my:keyOf Tryz.prog 9 (.string x.pred)=some (bh x.pred):=keyOf_string_mk Tryz.underlying9 (by unfold maxLen;omega)
       have HK:Hid (keyOf Tryz.prog 9 (.string x.pred)=some (bh x.pred)):=my
       clear my
       cases nP:Ax.look m' x.pred with
       | none=>
        have abh:Maps.has D' (bh x.pred)=false:=by rw[(VH.out x.pred).1,nP];rfl
        have HN:Hid (Ax.eN ((x.pred,x.ak.length)::m') ((L.map Prod.fst).drop (q+1)++((l.map MR.ay).drop (k+1)).flatMap Ax.bD.atoms)=R):=by
         have:=Pm.out
         simp only[Ax.eN,nP]at this
         exact this
        clear nP Pm
        go_wp2_with (first | (at_lookup;go_must (refine wpList_lookup_own_ok_int _ rfl _ _ 307 rfl 9 3 .i64 Tryz.gJ Tryz.underlying307 Tryz.underlying3 (Tryz.BI _) w.heap.size n' D' rfl (qO.alloc _) _ (bh x.pred) rfl HK.out ?_;intro cc uR hwc;clear uR hwc)) | (at_mapUpdate;go_must (refine wpList_mapUpdate_own _ rfl _ _ _ 307 rfl 9 3 Tryz.gJ Tryz.underlying307 _ w.heap.size n' D' rfl (qO.alloc _) (by unfold maxLen;omega) _ _ (bh x.pred) rfl rfl HK.out (.lit (.int .i64 x.ak.length)) [] (plainElem_int Tryz.underlying3 (WalkArith.wf_i64 (by omega))) ?_;intro w3 fF gG)))
        go_roundw
        case rel=>
         refine⟨q+1,n'+1,(x.pred,x.ak.length)::m',by omega,by omega,by go_num,⟨⟨_,fF,AJ VH.out hD' _ _⟩, ?_,HN.out⟩, ?_⟩
         · exact(Ik.alloc (by omega) _).grown gG (by simp;omega) (fun j hj=>by cases hj;exact Nat.le_refl _)
         · exact ax (grownBy_alloc zZ _) gG
        case measure=>simp[intOf];omega
       | some n0=>
        have abh:Maps.has D' (bh x.pred)=true:=by rw[(VH.out x.pred).1,nP];rfl
        have XM:Hid (D'.atKey (bh x.pred) (.lit (.int .i64 0))=.lit (.int .i64 n0)):=(VH.out x.pred).2 n0 nP
        by_cases cE:n0=x.ak.length
        · have HN:Hid (Ax.eN m' ((L.map Prod.fst).drop (q+1)++((l.map MR.ay).drop (k+1)).flatMap Ax.bD.atoms)=R):=by
           have:=Pm.out
           simp only[Ax.eN,nP,cE,if_true]at this
           exact this
          have HLK:Hid (Ax.look m' x.pred=some x.ak.length):=by rw[nP,cE];rfl
          subst cE
          clear nP Pm
          go_wp2_with (first | (at_lookup;go_must (refine wpList_lookup_own_ok_int _ rfl _ _ 307 rfl 9 3 .i64 Tryz.gJ Tryz.underlying307 Tryz.underlying3 (Tryz.BI _) w.heap.size n' D' rfl (qO.alloc _) _ (bh x.pred) rfl HK.out ?_;intro cc uR hwc;obtain rfl:cc=x.ak.length:=by (rw[XM.out]at uR;simpa using uR.symm))) | (at_mapUpdate;go_must (refine wpList_mapUpdate_own _ rfl _ _ _ 307 rfl 9 3 Tryz.gJ Tryz.underlying307 _ w.heap.size n' D' rfl (qO.alloc _) (by unfold maxLen;omega) _ _ (bh x.pred) rfl rfl HK.out (.lit (.int .i64 x.ak.length)) [] (plainElem_int Tryz.underlying3 (WalkArith.wf_i64 (by omega))) ?_;intro w3 fF gG)))
          go_roundw
          case rel=>
           refine⟨q+1,n'+1,m',by omega,by omega,by go_num,⟨⟨_,fF,CG VH.out hD' _ _ HLK.out⟩, ?_,HN.out⟩, ?_⟩
           · exact(Ik.alloc (by omega) _).grown gG (by simp;omega) (fun j hj=>by cases hj;exact Nat.le_refl _)
           · exact ax (grownBy_alloc zZ _) gG
          case measure=>simp[intOf];omega
        · have HY:Hid (R=some x.at_):=by
           have:=Pm.out
           simp only[Ax.eN,nP,cE,if_false]at this
           exact this.symm
          have Cb:((n0:Int) != (x.ak.length:Int))=true:=by simp;omega
          clear nP Pm cE
          go_wp2_with (first | (at_lookup;go_must (refine wpList_lookup_own_ok_int _ rfl _ _ 307 rfl 9 3 .i64 Tryz.gJ Tryz.underlying307 Tryz.underlying3 (Tryz.BI _) w.heap.size n' D' rfl (qO.alloc _) _ (bh x.pred) rfl HK.out ?_;intro cc uR hwc;obtain rfl:cc=n0:=by (rw[XM.out]at uR;simpa using uR.symm))) | (at_mapUpdate;go_must (refine wpList_mapUpdate_own _ rfl _ _ _ 307 rfl 9 3 Tryz.gJ Tryz.underlying307 _ w.heap.size n' D' rfl (qO.alloc _) (by unfold maxLen;omega) _ _ (bh x.pred) rfl rfl HK.out (.lit (.int .i64 x.ak.length)) [] (plainElem_int Tryz.underlying3 (WalkArith.wf_i64 (by omega))) ?_;intro w3 fF gG)))
          go_ret2
          exact⟨Ik.alloc (by omega) _,.inl ⟨x.at_,HY.out,rfl⟩⟩
     · have HN:Hid (Ax.eN m' (((l.map MR.ay).drop (k+1)).flatMap Ax.bD.atoms)=R):=by
        have:=Pm.out
        rw[List.drop_eq_nil_of_le (by simp;omega),List.nil_append]at this
        exact this
       clear Pm
       go_wp2_with fail
       go_roundw
       case rel=>exact⟨k+1,n',m',by omega,by omega,by go_num,⟨D',qO,VH.out⟩,Ik,HN.out⟩
       case measure=>simp[intOf];omega
  · have HE:Hid (R=none):=by
     have:=HR.out
     rw[List.drop_eq_nil_of_le (by simp;omega)]at this
     exact this.symm
    go_wp2_with fail
    go_ret2
    exact⟨aV,.inr ⟨HE.out,rfl⟩⟩
end
end Go.Proofs.YtdmicblafmhflaaGreatDoor
