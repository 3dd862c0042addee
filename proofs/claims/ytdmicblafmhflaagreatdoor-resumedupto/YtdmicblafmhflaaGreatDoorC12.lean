/- axiomkeep.instances, walked. -/
import Derived.Test.YtdmicblafmhflaaGreatDoorC11
import Derived.Deep.RegionHeld3
import Derived.Deep.AppendLies
import Derived.Test.YtdmicblafmhflaaGreatDoorC04
import Derived.Shelf.Unicode.DecodeAny
import Derived.Test.YtdmicblafmhflaaGreatDoorC05
import Derived.Lib.Builder
import Derived.Lib.AppendStr
import Derived.Lib.UnsafeStr
import Derived.Lib.Strings
import Derived.Lib.Walk
import Derived.Lib.BufferWrite
import Derived.Lib.Hide
import Derived.Laws.MakeOwn
import Derived.WalkKit
set_option linter.unusedSimpArgs false
set_option linter.unusedVariables false
set_option maxHeartbeats 4000000
set_option maxRecDepth 100000
namespace Go.Proofs.YtdmicblafmhflaaGreatDoor
section
open Go.RowKit
theorem abP(x:Nat):((x:Int)==0)=decide (x=0):=by
 rw[Bool.eq_iff_iff]
 simp
theorem eK.drew{w wr:World}{rc:Array Value}{out:Value}{xs:List Nat}{n vb:Nat}(h:eK w wr rc out xs n vb):eK w wr.drew rc out xs n vb:=h.below (Below.refl _ _).drew
theorem eK.alloc{w wr:World}{rc:Array Value}{out:Value}{xs:List Nat}{n vb:Nat}{Z:Array Value}{t:TypeId}(h:eK w wr rc out xs n vb):eK w (wr.alloc (.cells Z t)) rc out xs n vb:=h.below ((Below.refl _ _).alloc (Nat.le_refl _) _)
theorem wV.YO{w wr:World}{a b c d:Value}{out:Value}{xs:List Nat}(h:wV w wr #[a,b,c,d] out xs):wr.cell? ⟨w.heap.size,0,none⟩=some a∧wr.cell? ⟨w.heap.size,1,none⟩=some b∧wr.cell? ⟨w.heap.size,2,none⟩=some c∧wr.cell? ⟨w.heap.size,3,none⟩=some d:=
 ⟨by rw[cell_of_row _ _ _ _ _ _ h.box];rfl,by rw[cell_of_row _ _ _ _ _ _ h.box];rfl,by rw[cell_of_row _ _ _ _ _ _ h.box];rfl,by rw[cell_of_row _ _ _ _ _ _ h.box];rfl⟩
theorem pZ(w:World)(r:Ax.aA)(H:Nat→Bool)(ad:Option Addr)(n c:Nat)(hB:fo w ad n c r.body)(h0:cn r.head.pred)(h1:cn r.head.a)(h2:cn r.head.b)(hb:Nat)(hH:dJ w hb H):
 Calls Tryz.prog 37 #[.agg #[.int .i64 r.head.pred,.int .i64 r.head.a,.int .i64 r.head.b,.slice ad n c],.slice (some ⟨hb,0,none⟩) 36 36] w fun e w'=>∃v,e=.returned v∧w'.ownsRow w.heap.size 3 1 v (En.cB (En.pI r) H).length (an (En.cB (En.pI r) H))∧Below w.heap.size w w':=by
 obtain⟨i0,hi,ew,ev,dY⟩:=info_parts Tryz.xH
 have ff:hb<w.heap.size:=lt_of_heap hH
 have pG:Hid (fo w ad (min n 2) c (Ax.bG r)):=hB.two
 have hL2:(Ax.bG r).length≤2:=by unfold Ax.bG;simp;omega
 have hLn:(Ax.bG r).length=min n 2:=hB.two.len
 have ll:(Ax.bG r).length≤c:=by rw[hLn];exact hB.two.cap
 have Y6:=hB.max
 have hm:maxLen=9223372036854775807:=rfl
 have HUS:Hid (∀out xs m vb W (i:Nat),eK w W #[.int .i64 r.head.pred,.int .i64 r.head.a,.int .i64 r.head.b,.slice ad n c] out xs m vb→Calls Tryz.prog 66 #[.agg #[.int .i64 r.head.pred,.int .i64 r.head.a,.int .i64 r.head.b,.slice ad n c],.int .i64 i] W fun e w'=>e=.returned (.bool (qS r i))∧eK w w' #[.int .i64 r.head.pred,.int .i64 r.head.a,.int .i64 r.head.b,.slice ad n c] out xs m vb):=by
  intro out xs m vb W i hW
  refine(LY W r ad n c (hB.below hW.iw.aQ) _ _ _ i).mono ?_
  rintro e w' ⟨rfl,jR⟩
  exact⟨rfl,hW.below jR⟩
 have HBO:Hid (∀out xs m vb W,eK w W #[.int .i64 r.head.pred,.int .i64 r.head.a,.int .i64 r.head.b,.slice ad n c] out xs m vb→Calls Tryz.prog 63 #[.agg #[.int .i64 r.head.pred,.int .i64 r.head.a,.int .i64 r.head.b,.slice ad n c]] W fun e w'=>e=.returned (.slice ad (Ax.bG r).length c)∧eK w w' #[.int .i64 r.head.pred,.int .i64 r.head.a,.int .i64 r.head.b,.slice ad n c] out xs m vb):=by
  intro out xs m vb W hW
  refine(sF hB r.head.pred r.head.a r.head.b W).mono ?_
  rintro e w' ⟨rfl,jR⟩
  exact⟨by rw[hLn],hW.below jR⟩
 have W0:Hid (∀out xs m vb W,eK w W #[.int .i64 r.head.pred,.int .i64 r.head.a,.int .i64 r.head.b,.slice ad n c] out xs m vb→Calls Tryz.prog 62 #[.agg #[.int .i64 r.head.pred,.int .i64 r.head.a,.int .i64 r.head.b,.slice ad n c]] W fun e w'=>∃d c',e=.returned (.slice d (Ax.di r).length c')∧Hid (w'.ownsRow 0 3 1 (.slice d (Ax.di r).length c') (Ax.di r).length (an (Ax.di r)))∧eK w w' #[.int .i64 r.head.pred,.int .i64 r.head.a,.int .i64 r.head.b,.slice ad n c] out xs m vb):=by
  intro out xs m vb W hW
  refine(Ej W r ad n c (hB.below hW.iw.aQ) h0 h1 h2).mono ?_
  rintro e w' ⟨d,c',rfl,q1,q2⟩
  exact⟨d,c',rfl,aE q1 (Nat.zero_le _),hW.below q2⟩
 have Wd:Hid (∀out xs m vb W (x:Int) (tv:Value) (ts:List Nat),m<64→cn x→W.ownsRow 0 3 1 tv ts.length (an ts)→En.yo (Ax.aT x 3,ts)→eK w W #[.int .i64 r.head.pred,.int .i64 r.head.a,.int .i64 r.head.b,.slice ad n c] out xs m vb→Calls Tryz.prog 67 #[.int .i64 x,tv,.slice (some ⟨vb,0,none⟩) 3 3] W fun e w'=>e=.returned (.int .i64 (En.qM (En.gZ m) (Ax.aT x 3,ts):Nat))∧En.qM (En.gZ m) (Ax.aT x 3,ts)<36∧w'.cell? ⟨hb,En.qM (En.gZ m) (Ax.aT x 3,ts),none⟩=some (.bool (H (En.qM (En.gZ m) (Ax.aT x 3,ts))))∧hb<w'.heap.size∧eK w w' #[.int .i64 r.head.pred,.int .i64 r.head.a,.int .i64 r.head.b,.slice ad n c] out xs m vb):=by
  intro out xs m vb W x tv ts TG hx bF kg hW
  have aG:=En.mP (v:=En.gZ m) (fun i _=>En.gD TG i) kg
  refine(UE W x hx ts (En.gZ m) tv _ bF hW.row kg.1.2 kg.2 (fun i _=>En.gD TG i)).mono ?_
  rintro e w' ⟨rfl,jR⟩
  have SS:=hW.below jR
  exact⟨rfl,aG,(hH.below SS.iw.aQ).cell aG,Nat.lt_of_lt_of_le ff SS.iw.aQ.size,SS⟩
 have HHC:Hid (∀W,Below w.heap.size w W→∀z:Nat,z<36→W.cell? ⟨hb,z,none⟩=some (.bool (H z))):=fun W hW z hz=>(hH.below hW).cell hz
 have YJ:Hid (bS r H 64=En.cB (En.pI r) H):=Mt r H
 have VS:Hid (En.yo (Ax.aT r.head.pred 3,Ax.di r)):=(En.BG r).head
 have N5:(En.pI r).head=(Ax.aT r.head.pred 3,Ax.di r):=rfl
 generalize hR:En.cB (En.pI r) H=Jm at YJ ⊢
 clear hR
 generalize r.head.pred=rp at*
 generalize r.head.a=ra at*
 generalize r.head.b=rb at*
 clear hB h1 h2 hH hLn
 go_enter Tryz.func37,Tryz.ntmps37
 go_wp2_with fail
 go_loopw [5,6] (fun a i wr=>∃(m:Nat),m≤64∧i=.int .i64 m∧wV w wr #[.int .i64 rp,.int .i64 ra,.int .i64 rb,.slice ad n c] a (bS r H m)) (fun _ i _=>64-(intOf i).toNat)
 case atStart=>exact⟨0,by omega,rfl,heap_alloc_new _ _,World.ownsRow_nil _ _ _ _,(Below.refl _ _).alloc (Nat.le_refl _) _⟩
 case round=>
  obtain⟨m,TG,rfl,hW⟩:=hrel
  obtain⟨od,oc,rfl⟩:=aj hW.row
  by_cases aG:m<64
  · obtain⟨w1,qa⟩:∃w1,w1=wr.alloc (.cells #[.int .i64 ((m:Int)%4),.int .i64 ((m:Int)/4%4),.int .i64 ((m:Int)/16)] 3):=⟨_,rfl⟩
    have HV0:Hid (eK w w1 #[.int .i64 rp,.int .i64 ra,.int .i64 rb,.slice ad n c] (.slice od (bS r H m).length oc) (bS r H m) m wr.heap.size):=by
     have e:#[Value.int .i64 ((m:Int)%4),.int .i64 ((m:Int)/4%4),.int .i64 ((m:Int)/16)]=(an [En.gZ m 0,En.gZ m 1,En.gZ m 2]).toArray:=by
      simp[an,En.gZ]
     rw[qa]
     refine⟨hW.below ((Below.refl _ _).alloc (Nat.le_refl _) _), ?_⟩
     rw[e]
     exact mT rfl (by omega) (Nat.zero_le _)
    have ZL:decide ((m:Int)<64)=true:=decide_eq_true (by omega)
    have HXL:Hid ((bS r H m).length≤64):=Nat.le_trans (JU r H m) (by omega)
    clear hW
    go_wp2_with fail
    rw[←qa]
    clear qa
    generalize wr.heap.size=vb at*
    go_loopw [8,9] (fun o i wr=>∃(k:Nat),k≤3∧i=.int .i64 k∧o=.bool (NS r m k)∧eK w wr #[.int .i64 rp,.int .i64 ra,.int .i64 rb,.slice ad n c] (.slice od (bS r H m).length oc) (bS r H m) m vb) (fun _ i _=>3-(intOf i).toNat)
    case atStart=>exact⟨0,by omega,rfl,rfl,HV0.out⟩
    case round=>
     obtain⟨k,Ig,rfl,rfl,hV⟩:=hrel
     obtain⟨x0,x1,x2,x3,xl⟩:=hV.OI
     have HV:Hid (eK w wr #[.int .i64 rp,.int .i64 ra,.int .i64 rb,.slice ad n c] (.slice od (bS r H m).length oc) (bS r H m) m vb):=hV
     by_cases hk:k<3
     · obtain⟨cv,vl⟩:=hV.cell hk
       have Ez:decide ((k:Int)<3)=true:=decide_eq_true (by omega)
       have HS:Hid (NS r m (k+1)=(NS r m k&&(qS r k||decide (En.gZ m k=0)))):=rfl
       have HU:=HUS.out (.slice od (bS r H m).length oc) (bS r H m) m vb wr k hV
       have HCV:Hid (∀W,eK w W #[.int .i64 rp,.int .i64 ra,.int .i64 rb,.slice ad n c] (.slice od (bS r H m).length oc) (bS r H m) m vb→W.cell? ⟨vb,k,none⟩=some (.int .i64 (En.gZ m k:Nat))∧vb<W.heap.size):=fun W hW=>hW.cell hk
       clear hV HUS HBO W0 Wd
       generalize NS r m k=o1 at HS ⊢
       generalize qS r k=o2 at HS HU
       generalize En.gZ m k=xk at HS HCV cv
       cases o1 with
       | false=>
        rw[Bool.false_and]at HS
        cases o2<;>
        · go_wp2_with (go_at_call 66;refine HU.mono ?_;rintro e w5 ⟨rfl,QB⟩)
          go_roundw
          case rel=>exact⟨k+1,hk,by go_num,by rw[HS.out],QB⟩
          case measure=>simp[intOf];omega
       | true=>
        rw[Bool.true_and]at HS
        cases o2 with
        | true=>
         rw[Bool.true_or]at HS
         go_wp2_with (go_at_call 66;refine HU.mono ?_;rintro e w5 ⟨rfl,QB⟩)
         go_roundw
         case rel=>exact⟨k+1,hk,by go_num,by rw[HS.out],QB⟩
         case measure=>simp[intOf];omega
        | false=>
         rw[Bool.false_or]at HS
         go_wp2_with (go_at_call 66;refine HU.mono ?_;rintro e w5 ⟨rfl,QB⟩;obtain⟨cv5,vl5⟩:=HCV.out w5 QB)
         go_roundw
         case rel=>exact⟨k+1,hk,by go_num,by rw[HS.out];simp;exact abP _,QB⟩
         case measure=>simp[intOf];omega
     · have qH:k=3:=by omega
       subst qH
       clear hV
       have Xv:Hid (Ha r H m 0=NS r m 3):=WB r H m
       rw[←Xv.out]
       go_wp2_with (go_at_call 63;refine(HBO.out _ _ _ _ _ HV.out).mono ?_;rintro e w5 ⟨rfl,QB⟩)
       have HV5:Hid (eK w w5 #[.int .i64 rp,.int .i64 ra,.int .i64 rb,.slice ad n c] (.slice od (bS r H m).length oc) (bS r H m) m vb):=QB
       clear QB HV Xv x0 x1 x2 x3 xl HBO HUS
       go_loopw [8,12] (fun o i wr=>∃(k:Nat),k≤(Ax.bG r).length∧i=.int .i64 k∧o=.bool (Ha r H m k)∧eK w wr #[.int .i64 rp,.int .i64 ra,.int .i64 rb,.slice ad n c] (.slice od (bS r H m).length oc) (bS r H m) m vb) (fun _ i _=>(Ax.bG r).length-(intOf i).toNat)
       case atStart=>exact⟨0,Nat.zero_le _,rfl,rfl,HV5.out⟩
       case round=>
        obtain⟨k,IA,rfl,rfl,hV⟩:=hrel
        have HV:Hid (eK w wr #[.int .i64 rp,.int .i64 ra,.int .i64 rb,.slice ad n c] (.slice od (bS r H m).length oc) (bS r H m) m vb):=hV
        cases dj:Ha r H m k with
        | false=>
         have vz:Hid (bS r H (m+1)=bS r H m):=OU (IX dj)
         clear dj hV W0 Wd VS
         by_cases hk:k<(Ax.bG r).length
         · have Ez:decide ((k:Int)<((Ax.bG r).length:Int))=true:=decide_eq_true (by omega)
           go_wp2_with fail
           all_goals
            (go_roundw
             case rel=>exact⟨m+1,aG,by go_num,by rw[vz.out];exact HV.out.iw⟩
             case measure=>(simp[intOf];omega))
         · have Ez:decide ((k:Int)<((Ax.bG r).length:Int))=false:=decide_eq_false (by omega)
           go_wp2_with fail
           all_goals
            (go_roundw
             case rel=>exact⟨m+1,aG,by go_num,by rw[vz.out];exact HV.out.iw⟩
             case measure=>(simp[intOf];omega))
        | true=>
         by_cases hk:k<(Ax.bG r).length
         · have Ez:decide ((k:Int)<((Ax.bG r).length:Int))=true:=decide_eq_true (by omega)
           obtain⟨g,o',rfl,ha⟩:=(pG.out.below hV.iw.aQ).at_ k hk
           have pD:Hid (Ha r H m (k+1)=H (En.qM (En.gZ m) (Ax.aT ((Ax.bG r)[k]).pred 3,Ax.a8 (Ax.bG r)[k]))):=Nx hk dj
           have lA:Hid (∀W,eK w W #[.int .i64 rp,.int .i64 ra,.int .i64 rb,.slice (some ⟨g,o',none⟩) n c] (.slice od (bS r H m).length oc) (bS r H m) m vb→W.cell? ⟨g,o'+k*3,none⟩=some (.int .i64 ((Ax.bG r)[k]).pred)∧W.cell? ⟨g,o'+k*3+1,none⟩=some (.int .i64 ((Ax.bG r)[k]).a)∧W.cell? ⟨g,o'+k*3+2,none⟩=some (.int .i64 ((Ax.bG r)[k]).b)∧∀z:Nat,z<36→W.cell? ⟨hb,z,none⟩=some (.bool (H z))):=by
            intro W hW
            obtain⟨g',o2,e,Wy⟩:=(pG.out.below hW.iw.aQ).at_ k hk
            simp only[Option.some.injEq,Addr.mk.injEq,and_true]at e
            obtain⟨rfl,rfl⟩:=e
            exact⟨Wy.c0,Wy.c1,Wy.c2,fun z hz=>HHC.out W hW.iw.aQ z hz⟩
           have Xs:Hid (∀W,eK w W #[.int .i64 rp,.int .i64 ra,.int .i64 rb,.slice (some ⟨g,o',none⟩) n c] (.slice od (bS r H m).length oc) (bS r H m) m vb→Calls Tryz.prog 64 #[.agg #[.int .i64 ((Ax.bG r)[k]).pred,.int .i64 ((Ax.bG r)[k]).a,.int .i64 ((Ax.bG r)[k]).b]] W fun e w'=>∃d c',e=.returned (.slice d (Ax.a8 (Ax.bG r)[k]).length c')∧Hid (w'.ownsRow 0 3 1 (.slice d (Ax.a8 (Ax.bG r)[k]).length c') (Ax.a8 (Ax.bG r)[k]).length (an (Ax.a8 (Ax.bG r)[k])))∧eK w w' #[.int .i64 rp,.int .i64 ra,.int .i64 rb,.slice (some ⟨g,o',none⟩) n c] (.slice od (bS r H m).length oc) (bS r H m) m vb):=by
            intro W hW
            refine(kG W (Ax.bG r)[k] ha.f0 ha.f1 ha.f2).mono ?_
            rintro e w' ⟨d,c',rfl,q1,q2⟩
            exact⟨d,c',rfl,aE q1 (Nat.zero_le _),hW.below q2⟩
           have X5:Hid (∀W tv,W.ownsRow 0 3 1 tv (Ax.a8 (Ax.bG r)[k]).length (an (Ax.a8 (Ax.bG r)[k]))→eK w W #[.int .i64 rp,.int .i64 ra,.int .i64 rb,.slice (some ⟨g,o',none⟩) n c] (.slice od (bS r H m).length oc) (bS r H m) m vb→Calls Tryz.prog 67 #[.int .i64 ((Ax.bG r)[k]).pred,tv,.slice (some ⟨vb,0,none⟩) 3 3] W fun e w'=>∃R:Nat,e=.returned (.int .i64 (R:Nat))∧R<36∧(0:Int)≤(R:Int)∧(R:Int)<36∧w'.cell? ⟨hb,R,none⟩=some (.bool (H R))∧hb<w'.heap.size∧Hid (Ha r H m (k+1)=H R)∧eK w w' #[.int .i64 rp,.int .i64 ra,.int .i64 rb,.slice (some ⟨g,o',none⟩) n c] (.slice od (bS r H m).length oc) (bS r H m) m vb):=by
            intro W tv bF hW
            refine(Wd.out _ _ m vb W ((Ax.bG r)[k]).pred tv _ aG ha.f0 bF ⟨Ax.nF _,En.tW _⟩ hW).mono ?_
            rintro e w' ⟨rfl,q1,q2,q3,q4⟩
            exact⟨_,rfl,q1,by omega,by omega,q2,q3,pD.out,q4⟩
           obtain⟨c0,c1,c2,_,_,_⟩:=ha
           clear W0 Wd VS pD dj
           generalize Ax.a8 (Ax.bG r)[k]=tl at Xs X5
           generalize ((Ax.bG r)[k]).pred=ap at*
           generalize ((Ax.bG r)[k]).a=aa at*
           generalize ((Ax.bG r)[k]).b=ab at*
           go_wp2_with fail
           all_goals (go_region_held3 (fun W=>W.cell? ⟨g,o'+k*3,none⟩=some (.int .i64 ap)∧W.cell? ⟨g,o'+k*3+1,none⟩=some (.int .i64 aa)∧W.cell? ⟨g,o'+k*3+2,none⟩=some (.int .i64 ab)∧∀z:Nat,z<36→W.cell? ⟨hb,z,none⟩=some (.bool (H z))) (first | (exact lA.out _ (by assumption)) | (exact lA.out _ (eK.drew (by assumption)))) (first | (go_at_call 64;refine(Xs.out _ (by first | assumption | exact eK.drew (by assumption))).mono ?_;rintro e w6 ⟨d6,c6,rfl,HO6,hV6⟩) | (go_at_call 67;refine(X5.out _ _ (by exact HO6.out) (by assumption)).mono ?_;rintro e w7 ⟨R,rfl,hRN,hR0,IU,hcR,Lw,HSR,Ya⟩)))
           all_goals
            (go_wp2_with fail
             go_roundw
             case rel=>exact⟨k+1,hk,by go_num,by rw[HSR.out],Ya⟩
             case measure=>(simp[intOf];omega))
         · have Ez:decide ((k:Int)<((Ax.bG r).length:Int))=false:=decide_eq_false (by omega)
           have qH:k=(Ax.bG r).length:=by omega
           have WK:Hid (bS r H (m+1)=bS r H m++[En.qM (En.gZ m) (Ax.aT rp 3,Ax.di r)]):=by
            rw[qH,Hn]at dj
            have h9:=Kd dj
            rw[N5]at h9
            exact h9
           have X5:Hid (∀W tv,W.ownsRow 0 3 1 tv (Ax.di r).length (an (Ax.di r))→eK w W #[.int .i64 rp,.int .i64 ra,.int .i64 rb,.slice ad n c] (.slice od (bS r H m).length oc) (bS r H m) m vb→Calls Tryz.prog 67 #[.int .i64 rp,tv,.slice (some ⟨vb,0,none⟩) 3 3] W fun e w'=>∃R:Nat,e=.returned (.int .i64 (R:Nat))∧Hid (bS r H (m+1)=bS r H m++[R])∧eK w w' #[.int .i64 rp,.int .i64 ra,.int .i64 rb,.slice ad n c] (.slice od (bS r H m).length oc) (bS r H m) m vb):=by
            intro W tv bF hW
            refine(Wd.out _ _ m vb W rp tv _ aG h0 bF VS.out hW).mono ?_
            rintro e w' ⟨rfl,q1,q2,q3,q4⟩
            exact⟨_,rfl,WK.out,q4⟩
           have lA:Hid (∀W,eK w W #[.int .i64 rp,.int .i64 ra,.int .i64 rb,.slice ad n c] (.slice od (bS r H m).length oc) (bS r H m) m vb→W.cell? ⟨w.heap.size,0,none⟩=some (.int .i64 rp)∧W.cell? ⟨w.heap.size,1,none⟩=some (.int .i64 ra)∧W.cell? ⟨w.heap.size,2,none⟩=some (.int .i64 rb)∧W.cell? ⟨w.heap.size,3,none⟩=some (.slice ad n c)):=fun W hW=>⟨hW.OI.1,hW.OI.2.1,hW.OI.2.2.1,hW.OI.2.2.2.1⟩
           have oP:=HXL.out
           clear Wd VS WK dj qH
           generalize Ax.di r=tl at W0 X5
           go_wp2_with fail
           all_goals (go_region_held3 (fun W=>W.cell? ⟨w.heap.size,0,none⟩=some (.int .i64 rp)∧W.cell? ⟨w.heap.size,1,none⟩=some (.int .i64 ra)∧W.cell? ⟨w.heap.size,2,none⟩=some (.int .i64 rb)∧W.cell? ⟨w.heap.size,3,none⟩=some (.slice ad n c)) (first | (exact lA.out _ (by assumption)) | (exact lA.out _ (eK.drew (by assumption))) | (exact lA.out _ (eK.alloc (by assumption))) | (exact HCB.out.YO)) (first | (go_at_call 62;refine(W0.out _ _ _ _ _ (by first | assumption | exact eK.drew (by assumption))).mono ?_;rintro e w6 ⟨d6,c6,rfl,HO6,hV6⟩) | (go_at_call 67;refine(X5.out _ _ (by exact HO6.out) (by assumption)).mono ?_;rintro e w7 ⟨R,rfl,HYR,Ya⟩) | (refine step_append_lies _ rfl (.tmp 70) (.tmp 78) 31 rfl (w.heap.size+1) 3 i0 _ 1 8 Tryz.underlying31 hi ew ev dY rfl (by decide) (.slice od (bS r H m).length oc) (bS r H m).length (an (bS r H m)) (by simp[Act.eval,Act.put]) (by exact Ya.iw.row.alloc _) ⟨w7.heap.size,0,none⟩ 1 1 [.int .i64 (R:Nat)] (by simp[Act.eval,Act.put]) rfl (by exact fR _ _ _) (by simp[Value.oneCell']) (by decide) (by unfold maxLen;omega) (by omega) (by have:=lt_of_heap Ya.iw.box;simp;omega) (w7.heap.size+1) (by simp) ?_;intro g2 kX w8 Ws Ul _ TY;have HCB:Hid (wV w w8 #[.int .i64 rp,.int .i64 ra,.int .i64 rb,.slice ad n c] (.slice (some ⟨g2,0,none⟩) ((bS r H m).length+1) kX) (bS r H m++[R])):=(Ya.alloc (t:=3) (Z:=#[.int .i64 (R:Nat)])).iw.grown Ul Ws)))
           all_goals
            (go_wp2_with fail
             all_goals
              (go_roundw
               case rel=>exact⟨m+1,aG,by go_num,by rw[HYR.out];exact HCB.out⟩
               case measure=>(simp[intOf];omega)))
  · have hme:m=64:=by omega
    subst hme
    have HE:Hid (wr.ownsRow w.heap.size 3 1 (.slice od (bS r H 64).length oc) Jm.length (an Jm)∧Below w.heap.size w wr):=by
     rw[←YJ.out]
     exact⟨aE hW.row (by omega),hW.aQ⟩
    clear hW
    go_wp2_with fail
    go_ret
    exact⟨_,rfl,HE.out⟩
end
/- utf8.DecodeRuneInString as it is laid by the shelf; program.IsName. -/
section
open Go.Shelf Go.RowKit
def GC:Ren:=⟨fun | 197=>198 | 260=>246 | n=>n,fun | 0=>0 | 3=>3 | 4=>4 | 5=>5 | 9=>9 | 21=>21 | 46=>246 | 105=>334 | 119=>404 | 138=>406 | 139=>407 | n=>n,fun | 3=>2 | 4=>3 | n=>n⟩
theorem Rn:Lays.n197 Tryz.prog GC where
 mixed:=by kernel_rfl
 f197:=Tryz.func198.trans (congrArg some (by kernel_rfl))
 f260:=Tryz.func246.trans (congrArg some (by kernel_rfl))
 t0:=Tryz.underlying0
 a0:=Tryz.isAgg0
 z0:=Tryz.sizeOf0
 v0:=Tryz.zeroValue0
 t3:=Tryz.underlying3
 a3:=Tryz.isAgg3
 z3:=Tryz.sizeOf3
 v3:=Tryz.zeroValue3
 t4:=Tryz.underlying4
 a4:=Tryz.isAgg4
 z4:=Tryz.sizeOf4
 v4:=Tryz.zeroValue4
 t5:=Tryz.underlying5
 a5:=Tryz.isAgg5
 z5:=Tryz.sizeOf5
 v5:=Tryz.zeroValue5
 t9:=Tryz.underlying9
 a9:=Tryz.isAgg9
 z9:=Tryz.sizeOf9
 v9:=Tryz.zeroValue9
 t21:=Tryz.underlying21
 a21:=Tryz.isAgg21
 z21:=Tryz.sizeOf21
 v21:=Tryz.zeroValue21
 t46:=Tryz.underlying246
 a46:=Tryz.isAgg246
 z46:=Tryz.sizeOf246
 v46:=Tryz.zeroValue246
 t105:=Tryz.underlying334
 a105:=Tryz.isAgg334
 z105:=Tryz.sizeOf334
 v105:=Tryz.zeroValue334
 t119:=Tryz.underlying404
 a119:=Tryz.isAgg404
 z119:=Tryz.sizeOf404
 t138:=Tryz.underlying406
 a138:=Tryz.isAgg406
 z138:=Tryz.sizeOf406
 v138:=Tryz.zeroValue406
 t139:=Tryz.underlying407
 a139:=Tryz.isAgg407
 z139:=Tryz.sizeOf407
 v139:=Tryz.zeroValue407
 g3:=by kernel_rfl
 g4:=by kernel_rfl
abbrev eM(w:World):Prop:=Lib.Utf8Tabs 2 3 w
theorem ES(s:ByteArray)(w:World)(hT:eM w):
 Calls Tryz.prog 198 #[.string s] w fun e w'=>e=.returned (.tuple #[.int .i32 (Lib.decodeGo s).1,.int .i64 (Lib.decodeGo s).2])∧Below w.heap.size w w':=
 Any.utf8_DecodeRuneInString Rn s w hT
namespace Ax
def lL(s:ByteArray):Bool:=((aN s (Lib.decodeGo s).1).1==2)&&(((aN s (Lib.decodeGo s).1).2:Int)==(s.size:Int))
end Ax
theorem F0(s:ByteArray)(w:World)(hT:eM w)(hs:s.size≤maxLen):
 Calls Tryz.prog 130 #[.string s] w fun e w'=>e=.returned (.bool (Ax.lL s))∧Below w.heap.size w w':=by
 have hd:=ES s w hT
 have hn:Ax.lL s=(((Ax.aN s (Lib.decodeGo s).1).1==2)&&(((Ax.aN s (Lib.decodeGo s).1).2:Int)==(s.size:Int))):=rfl
 have hc:∀w1,Calls Tryz.prog 178 #[.string s,.int .i32 (Lib.decodeGo s).1] w1 fun e w'=>e=.returned (.tuple #[.int .i64 (Ax.aN s (Lib.decodeGo s).1).1,.int .i64 (Ax.aN s (Lib.decodeGo s).1).2])∧Below w1.heap.size w1 w':=fun w1=>kB s _ w1 hs
 generalize (Lib.decodeGo s).1=R at hd hn hc
 generalize (Lib.decodeGo s).2=K at hd
 generalize Ax.aN s R=FT at hn hc
 obtain⟨a,b⟩:=FT
 simp only at hn hc
 rw[hn]
 clear hn
 cases ha:(a==2)
 · go_enter Tryz.func130,Tryz.ntmps130
   go_wp2_with (first | (go_at_call 198;refine hd.mono ?_;rintro e w1 ⟨rfl,bq⟩) | (go_at_call 178;refine(hc _).mono ?_;rintro e w2 ⟨rfl,cw⟩))
   go_ret
   exact⟨by simp,bq.trans (cw.mono bq.size)⟩
 · go_enter Tryz.func130,Tryz.ntmps130
   go_wp2_with (first | (go_at_call 198;refine hd.mono ?_;rintro e w1 ⟨rfl,bq⟩) | (go_at_call 178;refine(hc _).mono ?_;rintro e w2 ⟨rfl,cw⟩))
   go_ret
   exact⟨by simp,bq.trans (cw.mono bq.size)⟩
end
/- strings.Builder: copyCheck, WriteString, String. -/
section
open Go.RowKit
theorem Tryz.uH:(Tryz.prog.info? 314).map (·.size)=some 2:=by kernel_rfl
theorem Tryz.Er:liesAt Tryz.prog Tryz.prog.depth 314 (2/Tryz.prog.cellsOf 314) 0 314 1=true:=by kernel_rfl
theorem Tryz.ku:(Tryz.prog.info? 5).map (fun i=>(i.zero,i.size,i.bytes))=some (some (.int .u8 0),1,1):=by kernel_rfl
theorem Tryz.Aj:Tryz.prog.cellsOf 5=1:=by kernel_rfl
def QX(B:Nat)(w:World)(b:Nat)(l:List UInt8):Prop:=
 ∃p v,(p=.pointer none∨p=.pointer (some ⟨b,0,none⟩))∧w.heap[b]?=some (.cells #[p,v] 314 (0,0))∧w.ownsRow B 5 1 v l.length (Lib.byteCells l)∧(l=[]→v=.slice none 0 0)
theorem wv(b:Nat)(w:World)(h0:w.cell? ⟨b,0,none⟩=some (.pointer (some ⟨b,0,none⟩))):
 Calls Tryz.prog 229 #[.pointer (some ⟨b,0,none⟩)] w fun e w'=>e=.returned (.tuple #[])∧w'=w:=by
 obtain⟨j,hj,_⟩:=Option.map_eq_some_iff.1 Tryz.uH
 go_enter Tryz.func229,Tryz.ntmps229
 have kn:=Lib.run_neq_ptr_same (P:=Tryz.prog) w ⟨b,0,none⟩ Tryz.underlying312 hj
 clear hj
 go_wp2_with fail
 go_end0
 exact⟨rfl,rfl⟩
theorem u5(b:Nat)(w:World)(h0:w.cell? ⟨b,0,none⟩=some (.pointer none))(sL:w.shape? b=some (314,2))(Sr:w.frozen? ⟨b,0,none⟩=false):
 Calls Tryz.prog 229 #[.pointer (some ⟨b,0,none⟩)] w fun e w'=>e=.returned (.tuple #[])∧w'=w.setCell ⟨b,0,none⟩ (.pointer (some ⟨b,0,none⟩)):=by
 obtain⟨j,hj,Lv⟩:=Option.map_eq_some_iff.1 Tryz.uH
 have k1:=fun w' (hs:w'.shape? b=some (314,2))=>Lib.run_to_unsafe (P:=Tryz.prog) w' ⟨b,0,none⟩ Tryz.underlying312 Tryz.underlying390 hj (by rw[Lv];decide) hs (Nat.zero_lt_succ 1)
 have k1':=k1 w sL
 have k2:(callFunc 263 #[.pointer (some ⟨b,0,none⟩)]).run Tryz.prog w=.ok (.value (.pointer (some ⟨b,0,none⟩))) w:=by
  rw[run_callFunc_extern Tryz.func263 (by kernel_rfl) (by kernel_rfl) (by kernel_rfl) (e:=Extern.AbiNoEscape.same) (by kernel_rfl),Lib.run_noEscape]
  rfl
 have k3:=Lib.run_from_unsafe (P:=Tryz.prog) w ⟨b,0,none⟩ Tryz.underlying390 Tryz.underlying312 hj sL Tryz.Er
 clear k1 hj
 go_enter Tryz.func229,Tryz.ntmps229
 go_wp2_with fail
 go_end0
 exact⟨rfl,rfl⟩
theorem yB(B b:Nat)(w:World)(v:Value)(p:Value)(hp:p=.pointer none∨p=.pointer (some ⟨b,0,none⟩))(hb:w.heap[b]?=some (.cells #[p,v] 314 (0,0)))(hB:B≤b):
 Calls Tryz.prog 229 #[.pointer (some ⟨b,0,none⟩)] w fun e w'=>e=.returned (.tuple #[])∧w'.heap[b]?=some (.cells #[.pointer (some ⟨b,0,none⟩),v] 314 (0,0))∧Below B w w'∧w.grownBy w' (some b):=by
 rcases hp with rfl | rfl
 · refine(u5 b w ?_ ?_ (aq hb 0)).mono ?_
   · rw[ag hb];rfl
   · simp[World.shape?,hb]
   · rintro e w' ⟨rfl,rfl⟩
     exact⟨rfl,by rw[heap_setCell_same hb];rfl,(Below.refl _ _).setCell hB _,grownBy_setCell _ _⟩
 · refine(wv b w ?_).mono ?_
   · rw[ag hb];rfl
   · rintro e w' ⟨rfl,rfl⟩
     exact⟨rfl,hb,Below.refl _ _,il _ _⟩
theorem byteCells_append(l m:List UInt8):Lib.byteCells (l++m)=Lib.byteCells l++Lib.byteCells m:=by simp[Lib.byteCells]
theorem IY{s:ByteArray}(h:s.data.toList=[]):s=ByteArray.empty:=by
 rcases s with⟨⟨l⟩⟩
 simp at h
 subst h
 rfl
theorem xu(s:ByteArray):Lib.strCells s=Lib.byteCells s.data.toList:=rfl
theorem uQ(B b:Nat)(l:List UInt8)(s:ByteArray)(w:World)(h:QX B w b l)(hB:B≤b)(hlen:l.length+s.size≤1000000):
 Calls Tryz.prog 184 #[.pointer (some ⟨b,0,none⟩),.string s] w fun e w'=>e=.returned (.tuple #[.int .i64 s.size,.nilIface])∧QX B w' b (l++s.data.toList)∧Below B w w':=by
 obtain⟨p,v,hp,hb,au,GH⟩:=h
 have aG:=lt_of_heap hb
 go_enter Tryz.func184,Tryz.ntmps184
 go_wp2_with (go_at_call 229;refine(yB B b _ v p hp hb hB).mono ?_)
 rintro e w1 ⟨rfl,bq,rq,ft⟩
 have bH:w1.ownsRow B 5 1 v l.length (Lib.byteCells l):=cX au ft (e':=314) (fun k hk=>by cases hk;exact⟨_,_,hb⟩) (by decide)
 have kV:=ft.size
 have c0:=ag bq 0
 have c1:=ag bq 1
 simp only[List.getElem?_toArray,List.getElem?_cons_zero,List.getElem?_cons_succ]at c0 c1
 go_wp2_with (at_builtin;obtain⟨i0,hi,ew,ev,dY⟩:=info_parts Tryz.ku;refine Lib.wpList_append_own_string _ rfl _ _ 63 9 rfl B 5 i0 Tryz.underlying63 Tryz.underlying9 hi ew ev dY _ _ _ rfl bH s rfl (by unfold maxLen;omega) (by omega) (by omega) ?_)
 intro v' w2 aP bx WG
 have cw:w2.heap[b]?=some (.cells #[.pointer (some ⟨b,0,none⟩),v] 314 (0,0)):=by
  rw[bx.block b (by omega) ?_]
  · exact bq
  · intro e
    obtain⟨cur,fz,hk⟩:=bK bH b e.symm
    rw[bq]at hk
    simp at hk
 have d1:=ag cw 1
 have f1:=aq cw 1
 simp only[List.getElem?_toArray,List.getElem?_cons_zero,List.getElem?_cons_succ]at d1
 obtain⟨ao,cap,rfl⟩:=aj aP
 go_wp2_with fail
 go_ret2
 have fS:Below B w w2:=rq.grown bx (by omega) (fun k hk=>(bH.lt k hk).1)
 refine⟨rfl,⟨_,_,.inr rfl,by rw[heap_setCell_same cw];rfl, ?_, ?_⟩,fS.setCell hB _⟩
 · rw[byteCells_append,←xu,List.length_append]
   refine cX (by simpa using aP) (grownBy_setCell _ _) (e':=314) (fun k hk=>by cases hk;exact⟨_,_,cw⟩) (by decide)
 · intro hl
   obtain⟨rfl,DV⟩:=List.append_eq_nil_iff.1 hl
   exact WG.2 ⟨GH rfl,IY DV⟩
end
/- strings.Clone: the same bytes. -/
section
open Go.RowKit
theorem CU(s:ByteArray)(w:World)(Xe:s.size≤281474976710656):
 Calls Tryz.prog 176 #[.string s] w fun e w'=>e=.returned (.string s)∧Below w.heap.size w w':=by
 by_cases h0:s.size=0
 · have hs:s=⟨#[]⟩:=by
    apply ByteArray.ext
    exact Array.eq_empty_of_size_eq_zero h0
   subst hs
   go_enter Tryz.func176,Tryz.ntmps176
   go_wp2_with fail
   go_ret
   exact⟨rfl,Below.refl _ _⟩
 · have bU:(((s.size:Nat):Int)==0)=false:=beq_eq_false_iff_ne.2 (by omega)
   obtain⟨i0,hi,ew,ev,dY⟩:=info_parts Tryz.ku
   have Yh:(Tryz.prog.info? 5).map (·.size)=some 1:=by rw[hi];simp[ev]
   obtain⟨M,hM⟩:∃M,M=madeCells (Value.int .u8 0).cells (((s.size:Nat):Int).toNat*i0.size):=⟨_,rfl⟩
   have hMs:M.size=s.size:=by rw[hM,size_madeCells,ev];simp
   have U4:∀W:World,(Instr.makeSlice 63 (.int .i64 (s.size:Int)) (.int .i64 (s.size:Int))).run Tryz.prog W=.ok (.slice (some ⟨W.heap.size,0,none⟩) s.size s.size) (W.alloc (.cells M 5)):=fun W=>by
    have h:=run_make (P:=Tryz.prog) W 63 5 i0 (.int .u8 0) Tryz.underlying63 hi ew .i64 .i64 (s.size:Int) (s.size:Int) (by omega) (by omega) (by rw[dY];omega) (by omega)
    rw[←hM]at h
    simpa using h
   clear hM hi
   have ve:=Lib.run_copy_row_string (P:=Tryz.prog) (w.alloc (.cells M 5)) 63 9 3 5 w.heap.size 0 s.size s.size s M 5 Tryz.underlying63 Yh (heap_alloc_new w _) (Nat.le_refl _) (by omega)
   obtain⟨Y,hY⟩:∃Y,Y=(M.toList.take 0++Lib.byteCells s.data.toList++M.toList.drop (0+s.size)).toArray:=⟨_,rfl⟩
   rw[←hY]at ve
   have hYl:Y.toList=Lib.byteCells s.data.toList:=by
    rw[hY,List.toList_toArray,List.take_zero,List.nil_append,List.drop_of_length_le (by rw[Array.length_toList];omega),List.append_nil]
   have hYs:Y.size=s.size:=by rw[←Array.length_toList,hYl,Lib.byteCells_length,←Lib.size_eq]
   have hgY:((w.alloc (.cells M 5)).setRow w.heap.size Y).heap[w.heap.size]?=some (.cells Y 5 (0,0)):=setRow_heap _ _ M _ 5 (0,0) (heap_alloc_new w _)
   have cE:s.data.toList≠[]:=fun e=>h0 (by rw[Lib.size_eq,e];rfl)
   have hUS:=Lib.run_unsafeString_row (P:=Tryz.prog) ((w.alloc (.cells M 5)).setRow w.heap.size Y) 351 3 9 5 Tryz.underlying351 Tryz.Aj w.heap.size Y.size (by unfold World.shape?;rw[hgY]) s.data.toList cE (by rw[←Lib.size_eq];omega) (by rw[←Lib.size_eq];omega)
    (fun j x hx=>Lib.cells_of_row hgY Y.size j _ (by rw[List.take_of_length_le (by rw[Array.length_toList];exact Nat.le_refl _),hYl];simp[Lib.byteCells,hx]))
   rw[←Lib.size_eq]at hUS
   clear hY
   go_enter Tryz.func176,Tryz.ntmps176
   go_wp2_with fail
   go_ret
   have bq:Below w.heap.size w (w.alloc (.cells M 5)):=(Below.refl _ w).alloc (Nat.le_refl _) _
   have cw:Below w.heap.size (w.alloc (.cells M 5)) ((w.alloc (.cells M 5)).setRow w.heap.size Y):=⟨rfl,rfl,rfl,by simp,fun k hk=>setRow_other _ _ _ _ (by omega)⟩
   exact⟨rfl,Lib.below_freeze (bq.trans cw) (p:=⟨w.heap.size,0,none⟩) (Nat.le_refl _) _⟩
theorem zY(s:ByteArray)(w:World)(Xe:s.size≤281474976710656):
 Calls Tryz.prog 102 #[.string s] w fun e w'=>e=.returned (.string s)∧Below w.heap.size w w':=by
 go_enter Tryz.func102,Tryz.ntmps102
 go_wp2_with (go_at_call 176;refine(CU s _ Xe).mono ?_;rintro e w1 ⟨rfl,bq⟩)
 go_ret
 exact⟨rfl,bq⟩
end
end Go.Proofs.YtdmicblafmhflaaGreatDoor
