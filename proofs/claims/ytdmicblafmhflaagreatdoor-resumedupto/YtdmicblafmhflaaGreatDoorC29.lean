/- Package follow: Model, walked. -/
import Derived.Test.YtdmicblafmhflaaGreatDoorC28
import Derived.Test.YtdmicblafmhflaaGreatDoorC14
import Derived.Laws.IdiomStrings
set_option linter.unusedSimpArgs false
set_option linter.unusedVariables false
set_option maxHeartbeats 4000000
set_option maxRecDepth 100000
namespace Go.Proofs.YtdmicblafmhflaaGreatDoor
section
open Go.RowKit Go.Maps Go.WideMaps Go.WideElems
open Go.Sort (grow)
theorem Tryz.AW(w:World):(zeroValue 122).run Tryz.prog w=.ok (.pointer none) w:=by kernel_rfl
def mstart(rs:List Ax.bD)(gl:List En.b7):En.dH En.b7:=En.holds (En.cL En.cz gl) (rs.flatMap En.eG)
def fu(rs:List Ax.bD)(gl:List En.b7):Option (En.dH En.b7):=En.search (rs.map En.cS) 200 202 0 (mstart rs gl)
structure T6(w1:World)(rv:Value)(Q:List Pd.Pr)(v:Value)(wx:World):Prop where
 out:∃sb mb T,v=.pointer (some ⟨sb,0,none⟩)∧mK wx sb mb rv none 0 T En.cz∧T.map gX=Q.reverse∧w1.heap.size≤mb∧(∀b,b∈dI sb none 0 0 T→w1.heap.size≤b)∧Below w1.heap.size w1 wx
theorem S3{w1 W w2:World}{Q:List Pd.Pr}{T:List HT}{rv:Value}(hT:kx W w2 W.heap.size Q.length Q T)(hW:W.heap.size=w1.heap.size)(hb:Below w1.heap.size w1 W)(hn:(Q.map Prod.fst).Nodup)(hs:∀p,p∈Q→p.1.size≤1000000)(hq:Q.length≤1000):
 T6 w1 rv Q (.pointer (some ⟨w2.heap.size,0,none⟩)) (w2.alloc (.cells #[rv,.map (some w1.heap.size),.slice none 0 0] 322)):=by
 rw[hW]at hT
 have kE:=hT.aQ
 obtain⟨h1,h2⟩:=ue (rv:=rv) (sb:=w2.heap.size) hT hn hs hq ((Kb.refl _ _).alloc _) (.inr (Nat.le_refl _)) (heap_alloc_new _ _)
 refine⟨_,_,T,rfl,h1,by rw[hT.nf,List.take_length],Nat.le_refl _,fun b jR=> ?_, ?_⟩
 · rcases h2 b jR with e | e
   · rw[e];have:=kE.size;omega
   · omega
 · exact(hb.trans (kE.mono (by omega))).alloc (by have:=kE.size;omega) _
theorem Oa{w1 W w2:World}{Q:List Pd.Pr}{T:List HT}{rv:Value}(hT:kx W w2 W.heap.size Q.length Q T)(hW:W.heap.size=w1.heap.size+1)(hb:Below w1.heap.size w1 W)(hz:w2.heap[w1.heap.size]?=some (.cells #[.slice none 0 0,.map none,.slice none 0 0] 322 (0,0)))(hn:(Q.map Prod.fst).Nodup)(hs:∀p,p∈Q→p.1.size≤1000000)(hq:Q.length≤1000):
 T6 w1 rv Q (.pointer (some ⟨w1.heap.size,0,none⟩)) (((w2.setCell ⟨w1.heap.size,0,none⟩ rv).setCell ⟨w1.heap.size,1,none⟩ (.map (some (w1.heap.size+1)))).setCell ⟨w1.heap.size,2,none⟩ (.slice none 0 0)):=by
 rw[hW]at hT
 have kE:=hT.aQ
 have k1:Kb [w1.heap.size] w2 (((w2.setCell ⟨w1.heap.size,0,none⟩ rv).setCell ⟨w1.heap.size,1,none⟩ (.map (some (w1.heap.size+1)))).setCell ⟨w1.heap.size,2,none⟩ (.slice none 0 0)):=((Kb.setCell w2 ⟨w1.heap.size,0,none⟩ rv).trans (Kb.setCell _ ⟨w1.heap.size,1,none⟩ _)).trans (Kb.setCell _ ⟨w1.heap.size,2,none⟩ _)
 have hblk:(((w2.setCell ⟨w1.heap.size,0,none⟩ rv).setCell ⟨w1.heap.size,1,none⟩ (.map (some (w1.heap.size+1)))).setCell ⟨w1.heap.size,2,none⟩ (.slice none 0 0)).heap[w1.heap.size]?=some (.cells #[rv,.map (some (w1.heap.size+1)),.slice none 0 0] 322 (0,0)):=by
  rw[aw _ (aw _ (aw w2 hz 0 rv) 1 _) 2]
  rfl
 obtain⟨h1,h2⟩:=ue (rv:=rv) (sb:=w1.heap.size) hT hn hs hq k1 (.inl (by omega)) hblk
 refine⟨_,_,T,rfl,h1,by rw[hT.nf,List.take_length],by omega,fun b jR=> ?_, ?_⟩
 · rcases h2 b jR with e | e
   · omega
   · omega
 · exact k1.aU (hb.trans (kE.mono (by omega))) (by have:=kE.size;omega) (by simp)
structure TD(w1:World)(rs:List Ax.bD)(Q:List Pd.Pr)(G:List GT)(e:Ending)(w':World):Prop where
 aQ:Below w1.heap.size w1 w'
 ans:(∃hm T s,e=.returned (.tuple #[.map (some hm),.bool true])∧fu rs (dz Q G)=some s∧pe w' hm T s∧T.map gX=Q.reverse∧(∀b,b∈cG hm T→w1.heap.size≤b))∨
  (e=.returned (.tuple #[.map none,.bool false])∧fu rs (dz Q G)=none)
structure Hr(w1 wr:World)(sb mb:Nat)(rv:Value)(K:List (ByteArray×Nat×Nat))(R:List (En.eD En.b7))(n:Nat)(s:En.dH En.b7)(Jm:Option (En.dH En.b7)):Prop where
 rel:u7 w1 wr sb mb rv K s
 res:En.search R 200 (202-n) n s=Jm
 le:n≤200
 found:s.found.length≤30000
 count:∀f,s.count f≤8+n*4000
theorem yl{l:List MR}(EE:l.length≤8){gl:List En.b7}(hg:gl.length≤24000):(mstart (l.map MR.ay) gl).found.length≤30000∧∀f,(mstart (l.map MR.ay) gl).count f≤8:=by
 have h1:=En.qJ ((l.map MR.ay).flatMap En.eG) (En.cL En.cz gl)
 have h2:((l.map MR.ay).flatMap En.eG).length≤8:=by
  rw[En.tV]
  have:=En.Im ((l.map MR.ay).map En.cS)
  rw[List.length_map,List.length_map]at this
  omega
 have h3:=En.mC gl (En.cz (F:=En.b7))
 have h4:(En.cz (F:=En.b7)).found.length=0:=rfl
 unfold mstart
 refine⟨by have:=h1.1;omega,fun f=> ?_⟩
 have h5:=h1.2 f
 rw[En.lK]at h5
 have:(En.cz (F:=En.b7)).count f=0:=rfl
 omega
theorem OS{l:List MR}(EE:l.length≤8)(h2:∀r,r∈l→r.body.length≤2){n:Nat}{s:En.dH En.b7}(hn:n<s.found.length)(hf:s.found.length≤200)(hc:∀f,s.count f≤8+n*4000):
 ((l.map MR.ay).flatMap (En.bB (s.found.take n) s.found[n])).length≤3208∧En.holds s ((l.map MR.ay).flatMap (En.bB (s.found.take n) s.found[n]))=En.meet ((l.map MR.ay).map En.cS) s n∧
   (En.meet ((l.map MR.ay).map En.cS) s n).found.length≤30000∧∀f,(En.meet ((l.map MR.ay).map En.cS) s n).count f≤8+(n+1)*4000:=by
 have e:=Fu (P:=s.found.take n) (z:=s.found[n]) h2
 have hlen:((l.map MR.ay).flatMap (En.bB (s.found.take n) s.found[n])).length≤3208:=by
  rw[e]
  have h1:=En.zG (s.found.take n) s.found[n] ((l.map MR.ay).map En.cS)
  simp only[List.length_map,List.length_take]at h1
  have h3:min n s.found.length=n:=Nat.min_eq_left (by omega)
  rw[h3]at h1
  have h4:l.length*(2*n+1)≤8*401:=Nat.mul_le_mul EE (by omega)
  omega
 have hm:En.holds s ((l.map MR.ay).flatMap (En.bB (s.found.take n) s.found[n]))=En.meet ((l.map MR.ay).map En.cS) s n:=by rw[En.Q8 hn,e]
 have hb:=En.qJ ((l.map MR.ay).flatMap (En.bB (s.found.take n) s.found[n])) s
 refine⟨hlen,hm, ?_,fun f=> ?_⟩
 · rw[←hm];have:=hb.1;omega
 · rw[←hm];have h5:=hb.2 f;have h6:=hc f;omega
end
section
open Go.RowKit Go.Maps Go.WideMaps Go.WideElems
open Go.Sort (grow)
theorem KJ(w:World)(pl:ByteArray)(rd:Option Addr)(rc:Nat)(l:List MR)(hl:fA w rd rc l)(EE:l.length≤8)(h1:Pd.One (bQ (l.map MR.ay)))(cE:l≠[])(cR:∀p,p∈bQ (l.map MR.ay)→p.1.size≤1000000)
 (gm:Nat)(G:List GT)(hG:kY w gm G)(P4:∀p,p∈bQ (l.map MR.ay)→p.1∈G.map GT.nm)(hGt:∀t,t∈G→t.L.length≤1000):
 Calls Tryz.prog 111 #[.agg #[.string pl,.slice rd l.length rc],.map (some gm)] w fun e w'=>∃Q,Hid (Pd.vp Q∧∀p,p∈Q↔p∈bQ (l.map MR.ay))∧TD w (l.map MR.ay) Q G e w':=by
 obtain⟨w0,db⟩:∃w0,w0=w.alloc (.cells #[.string pl,.slice rd l.length rc] 101):=⟨_,rfl⟩
 have bU:Below w.heap.size w w0:=by rw[db];exact(Below.refl _ _).alloc (Nat.le_refl _) _
 have lC:w0.heap[w.heap.size]?=some (.cells #[.string pl,.slice rd l.length rc] 101 (0,0)):=by rw[db];exact heap_alloc_new w _
 have x0:w0.cell? ⟨w.heap.size,0,none⟩=some (.string pl):=by rw[cell_of_row _ _ 0 _ _ _ lC];rfl
 have x1:w0.cell? ⟨w.heap.size,1,none⟩=some (.slice rd l.length rc):=by rw[cell_of_row _ _ 1 _ _ _ lC];rfl
 have pa:Hid (Calls Tryz.prog 59 #[.agg #[.string pl,.slice rd l.length rc]] w0 fun e w1=>∃qd qc Q,e=.returned (.slice qd (List.length Q) qc)∧w1.cell? ⟨w.heap.size,1,none⟩=some (.slice rd l.length rc)∧w.heap.size<w1.heap.size∧Hid (w1.ownsRow 0 112 2 (.slice qd Q.length qc) Q.length (aF Q)∧Below w.heap.size w w1∧Pd.vp Q∧∀p,p∈Q↔p∈bQ (l.map MR.ay))):=by
  refine(pw w0 pl rd rc l (hl.Ca.below bU) (by omega) h1 cE).mono ?_
  rintro e w1 ⟨qd,qc,Q,rfl,q1,q2,q3⟩
  have aG:=lt_of_heap lC
  exact⟨qd,qc,Q,rfl,by rw[q2.cell aG];exact x1,Nat.lt_of_lt_of_le aG q2.size,aE q1 (Nat.zero_le _),bU.trans (q2.mono bU.size),q3.out.1,q3.out.2⟩
 have QP:Hid (∀p,p∈bQ (l.map MR.ay)→p.1.size≤1000000):=cR
 have HGN:Hid (∀p,p∈bQ (l.map MR.ay)→p.1∈G.map GT.nm):=P4
 have HGT:Hid (∀t,t∈G→t.L.length≤1000):=hGt
 have HL:Hid (fA w rd rc l):=hl
 have HG:Hid (kY w gm G):=hG
 have hle:=be hl.Ca.1
 have H3:Hid ((bQ (l.map MR.ay)).length≤24):=by have:=E9 hl.two;exact(by omega:(bQ (l.map MR.ay)).length≤24)
 clear h1 cE cR P4 hGt hl hG lC
 go_enter Tryz.func111,Tryz.ntmps111
 go_upto_region 1 with fail
 rw[←db]
 clear db
 go_upto_region 2 with(go_at_call 59;refine pa.out.mono ?_;rintro e w1 ⟨qd,qc,Q,rfl,y1,N0,HQ⟩)
 have hQl:Q.length≤24:=Nat.le_trans (ze _ _ (tD HQ.out.2.2.1) (fun p hp=>(HQ.out.2.2.2 p).1 hp)) H3.out
 have hnh:Hid (∀W:World,Below w1.heap.size w1 W→Calls Tryz.prog 186 #[.slice qd Q.length qc] W fun e w2=>∃T,e=.returned (.map (some W.heap.size))∧Hid (kx W w2 W.heap.size Q.length Q T)∧w2.cell? ⟨w.heap.size,1,none⟩=some (.slice rd l.length rc)∧w.heap.size<w2.heap.size∧Below W.heap.size W w2):=by
  intro W hW
  refine(zb W 0 qd qc Q (ah HQ.out.1 hW) (by omega) (fun p hp=>QP.out p ((HQ.out.2.2.2 p).1 hp))).mono ?_
  rintro e w2 ⟨T,rfl,hT⟩
  have sM:=hT.aQ
  refine⟨T,rfl,hT, ?_,Nat.lt_of_lt_of_le N0 (Nat.le_trans hW.size sM.size),sM⟩
  rw[sM.cell (Nat.lt_of_lt_of_le N0 hW.size),hW.cell N0]
  exact y1
 go_cut [7]from 15 (fun v wx=>Hid (T6 w1 (.slice rd l.length rc) Q v wx))
 case first=>
  go_region_with (go_at_call 186;refine(hnh.out _ (by first | exact(Below.refl _ _).drew | exact((Below.refl _ _).drew).alloc (Nat.le_refl _) _)).mono ?_;rintro e w2 ⟨T,rfl,HT,y2,qQ,cw⟩;try (have hzz:=Dt (w1:=w1) (by exact rfl) cw;obtain⟨hz,z0,z1,z2,f0,f1,f2,hzl⟩:=hzz))
  all_goals
   (go_wp2_with fail
    go_meet
    first
    | exact S3 HT.out rfl ((Below.refl _ _).drew) (o4 HQ.out.2.2.1) (fun p hp=>QP.out p ((HQ.out.2.2.2 p).1 hp)) (by omega)
    | exact Oa HT.out (by simp) (((Below.refl _ _).alloc (Nat.le_refl _) _).drew) hz (o4 HQ.out.2.2.1) (fun p hp=>QP.out p ((HQ.out.2.2.2 p).1 hp)) (by omega)
    | exact Oa HT.out (by simp) (((Below.refl _ _).drew).alloc (Nat.le_refl _) _) hz (o4 HQ.out.2.2.1) (fun p hp=>QP.out p ((HQ.out.2.2.2 p).1 hp)) (by omega))
 case rest=>
  obtain⟨sb,mb,T0,rfl,DV,WV,O6,YI,bq⟩:=hcut.out.out
  have lh:Hid (Below w.heap.size w w1):=HQ.out.2.1
  have Vp:Hid (T0.map gX=Q.reverse):=WV
  have HM0:Hid (u7 w1 wc sb mb (.slice rd l.length rc) (T0.map HT.key) En.cz):=⟨⟨none,0,T0,DV,rfl,YI⟩,bq⟩
  have HQR:Hid (w1.ownsRow 0 112 2 (.slice qd Q.length qc) Q.length (aF Q)):=HQ.out.1
  have mO:Hid ((dz Q G).length≤24000):=by have:=Mi (Q:=Q) HGT.out;exact(by omega:(dz Q G).length≤24000)
  have N2:=be HQ.out.1
  clear hcut DV WV YI bq hnh x0 x1 y1
  go_wp2_with fail
  go_loopw [22] (fun i wr=>∃k:Nat,k≤Q.length∧i=.int .i64 k∧u7 w1 wr sb mb (.slice rd l.length rc) (T0.map HT.key) (En.cL En.cz (dz (Q.take k) G))) (fun i _=>Q.length-(intOf i).toNat)
  case atStart=>exact⟨0,Nat.zero_le _,rfl,HM0.out⟩
  case round=>
   obtain⟨k,hk,rfl,hm⟩:=hrel
   have HM:Hid (u7 w1 wr sb mb (.slice rd l.length rc) (T0.map HT.key) (En.cL En.cz (dz (Q.take k) G))):=hm
   clear hm HM0
   obtain⟨wA,rfl⟩:∃x,x=wr:=⟨_,rfl⟩
   by_cases aG:k<Q.length
   · have GG:Hid (wA.ownsRow 0 112 2 (.slice qd Q.length qc) Q.length (aF Q)):=ah HQR.out HM.out.aQ
     obtain⟨g,rfl,hg,hc,br⟩:=aD GG.out (by omega)
     have c0:=br _ _ (aY Q k aG).1
     have c1:=br _ _ (aY Q k aG).2
     have xS:Hid (Below w.heap.size w wA):=lh.out.trans (HM.out.aQ.mono lh.out.size)
     obtain⟨t,Uv,Rx⟩:∃t,t∈G∧t.nm=(Q[k]).1:=by
      obtain⟨t,ht,e⟩:=List.mem_map.1 (HGN.out Q[k] ((HQ.out.2.2.2 _).1 (List.getElem_mem aG)))
      exact⟨t,ht,e⟩
     have pD:Hid (dz (Q.take (k+1)) G=dz (Q.take k) G++t.L.map fun r=>(t.nm,r)):=by
      have e:=Jq aG G
      rw[←Rx,qh HG.out.names Uv]at e
      exact e
     have HTM:Hid (t.nm∈T0.map HT.nm):=by
      have e:T0.map HT.nm=(T0.map gX).map Prod.fst:=by rw[List.map_map];rfl
      rw[e,Vp.out,Rx]
      exact List.mem_map.2 ⟨Q[k],by simp,rfl⟩
     have Sx:Hid (t.L.length≤1000):=HGT.out t Uv
     have Yr:Hid ((En.cL (En.cz (F:=En.b7)) (dz (Q.take k) G)).found.length≤24000):=by
      have h1:=En.mC (dz (Q.take k) G) (En.cz (F:=En.b7))
      have h2:=yt Q k G
      have h3:=mO.out
      have h4:(En.cz (F:=En.b7)).found.length=0:=rfl
      have h5:(En.cL (En.cz (F:=En.b7)) (dz (Q.take k) G)).found.length≤24000:=by omega
      exact h5
     have H3L:Hid (pS t.L):=(bW.rows (HG.out.bR t Uv)).three
     rw[←Rx]at c0
     have nP:∀W:World,Below wA.heap.size wA W→(Instr.lookup 102 (.map (some gm)) (.string t.nm) false).run Tryz.prog W=.ok (.pointer (some ⟨t.g,0,none⟩)) W:=fun W hW=>((HG.out.below xS.out).below hW).map.look (gM HG.out.names Uv) (HG.out.short t Uv) Tryz.underlying102 (Tryz.AW W)
     have LN:=nP (wA.alloc (.cells #[.string t.nm,.int .i64 (Q[k]).2] 112)) ((Below.refl _ _).alloc (Nat.le_refl _) _)
     have Cr:Hid (∀W,Below wA.heap.size wA W→Calls Tryz.prog 133 #[.pointer (some ⟨t.g,0,none⟩)] W fun e w2=>∃rd' rc',e=.returned (.slice rd' t.L.length rc')∧w2.ownsRow W.heap.size 119 3 (.slice rd' t.L.length rc') t.L.length (aK t.L)∧Below W.heap.size W w2):=fun W hW=>wg W t.g _ t.nm t.pl t.rd t.rc t.L [] (((HG.out.below xS.out).below hW).bR t Uv) (by have:=Sx.out;omega)
     generalize (Q[k]).2=pp at c1 LN
     clear br nP Rx Uv
     go_wp2_with (go_at_call 133;refine(Cr.out _ (by exact(Below.refl _ _).alloc (Nat.le_refl _) _)).mono ?_;rintro e w2 ⟨rd',rc',rfl,DJ,cw⟩)
     have TB:Below wA.heap.size wA w2:=((Below.refl _ _).alloc (Nat.le_refl _) _).trans (cw.mono (by simp))
     have HP2:Hid (w2.heap[wA.heap.size]?=some (.cells #[.string t.nm,.int .i64 pp] 112 (0,0))):=by
      rw[cw.block _ (by simp)]
      exact heap_alloc_new _ _
     obtain⟨fd,fc,T,MU,ur,Gy⟩:=HM.out.at_
     have G8:Hid (mK w2 sb mb (.slice rd l.length rc) fd fc T (En.cL En.cz (dz (Q.take k) G))):=MU.below TB
     have HNF:Hid (∀b,b∈dI sb fd fc (En.cL (En.cz (F:=En.b7)) (dz (Q.take k) G)).found.length T→b<wA.heap.size):=fun b hb=>by
      obtain⟨cur,U,e,_⟩:=ls MU hb
      exact lt_of_heap e
     have HK:Hid (T.map HT.key=T0.map HT.key):=ur
     have HF:Hid (∀b,b∈dI sb fd fc (En.cL (En.cz (F:=En.b7)) (dz (Q.take k) G)).found.length T→w1.heap.size≤b):=Gy
     have YV:Hid (Below w1.heap.size w1 w2):=HM.out.aQ.trans (TB.mono HM.out.aQ.size)
     have R4:Hid (w2.ownsRow (wA.heap.size+1) 119 3 (.slice rd' t.L.length rc') t.L.length (aK t.L)):=by
      have:=DJ
      rw[World.size_alloc]at this
      exact this
     have akq:=be DJ
     have R1:Hid (∀f,(En.cL (En.cz (F:=En.b7)) (dz (Q.take k) G)).count f=0):=fun f=>by rw[En.lK];rfl
     have HGS:Hid (En.cL (En.cL En.cz (dz (Q.take k) G)) (t.L.map fun r=>(t.nm,r))=En.cL En.cz (dz (Q.take (k+1)) G)):=by
      have h9:En.cL (En.cL En.cz (dz (Q.take k) G)) (t.L.map fun r=>(t.nm,r))=En.cL En.cz (dz (Q.take (k+1)) G):=by rw[pD.out,En.BU]
      exact h9
     generalize En.cL (En.cz (F:=En.b7)) (dz (Q.take k) G)=s at G8 HNF HF Yr R1 HGS
     clear MU ur Gy DJ cw TB c0 c1 LN Cr HM GG
     go_loopw [34] (fun i wr=>∃j:Nat,j≤t.L.length∧i=.int .i64 j∧iI w2 wr sb mb (.slice rd l.length rc) fd fc T s (En.cL s ((t.L.take j).map fun r=>(t.nm,r)))) (fun i _=>t.L.length-(intOf i).toNat)
     case atStart=>exact⟨0,Nat.zero_le _,rfl,iI.refl G8.out⟩
     case round=>
      obtain⟨j,hj,rfl,kI⟩:=hrel
      have qA:Hid (iI w2 wr sb mb (.slice rd l.length rc) fd fc T s (En.cL s ((t.L.take j).map fun r=>(t.nm,r)))):=kI
      clear kI
      by_cases yi:j<t.L.length
      · have hrw:wr.ownsRow (wA.heap.size+1) 119 3 (.slice rd' t.L.length rc') t.L.length (aK t.L):=by
         refine qA.out.kept.row R4.out ?_
         intro b hb hm
         have h1:=HNF.out b hm
         have h2:=(R4.out.lt b hb).1
         omega
        obtain⟨g3,rfl,nN,qo,mg⟩:=aD hrw (by omega)
        obtain⟨a,b,c,Ug⟩:=xO (H3L.out _ (List.getElem_mem yi))
        obtain⟨r0,r1,r2⟩:=ke H3L.out yi Ug
        have r0:=mg _ _ r0
        have r1:=mg _ _ r1
        have r2:=mg _ _ r2
        have vO:wr.heap[wA.heap.size]?=some (.cells #[.string t.nm,.int .i64 pp] 112 (0,0)):=by
         refine qA.out.kept.heap HP2.out ?_
         intro hm
         have:=HNF.out _ hm
         omega
        have p0:wr.cell? ⟨wA.heap.size,0,none⟩=some (.string t.nm):=by rw[cell_of_row _ _ _ _ _ _ vO];rfl
        have la:=lt_of_heap vO
        have uv:Hid (En.cL s ((t.L.take (j+1)).map fun r=>(t.nm,r))=En.hold (En.cL s ((t.L.take j).map fun r=>(t.nm,r))) (t.nm,[a,b,c]) 0):=by
         have e0:t.L.take (j+1)=t.L.take j++[t.L[j]]:=by rw[List.take_add_one,List.getElem?_eq_getElem yi];rfl
         rw[e0,List.map_append,Ug]
         exact En.F8 _ _ _
        have uw:Hid (∀W:World,Below wr.heap.size wr W→Calls Tryz.prog 187 #[.pointer (some ⟨sb,0,none⟩),.agg #[.string t.nm,.string a,.string b,.string c],.int .i64 0] W fun e w'=>e=.returned (.tuple #[])∧Hid (iI w2 w' sb mb (.slice rd l.length rc) fd fc T s (En.cL s ((t.L.take (j+1)).map fun r=>(t.nm,r))))):=by
         intro W hW
         obtain⟨vA,vm,T1,kV,mj,yu⟩:=qA.out.on
         obtain⟨A,t',B,hT1,N5⟩:=nB (T:=T1) (p:=t.nm) (by rw[kk (mj.trans HK.out)];exact HTM.out)
         subst hT1
         have pQ:=En.Ed ((t.L.take j).map fun r=>(t.nm,r)) s
         have NW:=En.mC ((t.L.take j).map fun r=>(t.nm,r)) s
         have ahq:((t.L.take j).map fun r=>(t.nm,r)).length≤1000:=by
          have:=Sx.out
          simp;omega
         have VG:=Yr.out
         have Al:=zq W sb mb _ vA vm A B t' _ (kV.below hW) a b c 0 (by decide) (by omega) (fun f=>by rw[En.lK,R1.out f];decide)
         rw[←N5]at Al
         refine Al.mono ?_
         rintro e w' ⟨rfl,jN⟩
         refine⟨rfl, ?_⟩
         rw[uv.out]
         exact iI.trans G8.out (kV.below hW) mj yu (qA.out.kept.below hW) (qA.out.post hW).cells pQ jN
        clear hrw mg vO Ug
        go_wp2_with (go_at_call 187;refine(uw.out _ (by exact(Below.refl _ _).alloc (Nat.le_refl _) _)).mono ?_;rintro e w6 ⟨rfl,To⟩)
        go_roundw
        case rel=>exact⟨j+1,by omega,by go_num,To.out⟩
        case measure=>simp[intOf];omega
      · have ZN:j=t.L.length:=by omega
        have eX:Hid (u7 w1 wr sb mb (.slice rd l.length rc) (T0.map HT.key) (En.cL En.cz (dz (Q.take (k+1)) G))):=by
         have h1:=qA.out
         rw[ZN,List.take_length,HGS.out]at h1
         exact u7.on YV.out HK.out HF.out h1
        clear ZN
        go_wp2_with fail
        go_roundw
        case rel=>exact⟨k+1,by omega,by go_num,eX.out⟩
        case measure=>simp[intOf];omega
   · have qH:k=Q.length:=by omega
     have Zz:Hid (u7 w1 wA sb mb (.slice rd l.length rc) (T0.map HT.key) (En.cL En.cz (dz Q G))):=by
      have:=HM.out
      rw[qH,List.take_length]at this
      exact this
     clear HM qH
     have OL:Hid (∀W:World,Below w1.heap.size w1 W→fA W rd rc l):=fun W hW=>(HL.out.below lh.out).below hW
     have HTN:Hid (∀T:List HT,T.map HT.key=T0.map HT.key→∀r,r∈l→r.head.1.pred∈T.map HT.nm):=by
      intro T hT r hr
      have e:T0.map HT.nm=(T0.map gX).map Prod.fst:=by rw[List.map_map];rfl
      rw[kk hT,e,Vp.out]
      have hm:pK r.head.1∈bQ (l.map MR.ay):=by
       unfold bQ
       refine List.mem_map.2 ⟨r.head.1,List.mem_flatMap.2 ⟨r.ay,List.mem_map.2 ⟨r,hr,rfl⟩, ?_⟩,rfl⟩
       simp[Ax.bD.atoms,MR.ay]
      have hq:=(HQ.out.2.2.2 _).2 hm
      exact List.mem_map.2 ⟨pK r.head.1,by simpa using hq,rfl⟩
     have DZ:=yl EE mO.out
     have ff:Hid (Calls Tryz.prog 188 #[.pointer (some ⟨sb,0,none⟩)] wA fun e w3=>e=.returned (.tuple #[])∧Hid (u7 w1 w3 sb mb (.slice rd l.length rc) (T0.map HT.key) (mstart (l.map MR.ay) (dz Q G)))):=by
      obtain⟨fd,fc,T,MU,ur,Gy⟩:=Zz.out.at_
      have h1:=En.mC (dz Q G) (En.cz (F:=En.b7))
      have h4:(En.cz (F:=En.b7)).found.length=0:=rfl
      have h5:=mO.out
      refine(B7 wA sb mb rd rc l fd fc T _ MU (OL.out _ Zz.out.aQ) (HTN.out T ur) (by omega) (by omega) (fun f=>by rw[En.lK];have:(En.cz (F:=En.b7)).count f=0:=rfl;omega)).mono ?_
      rintro e w3 ⟨rfl,jN⟩
      exact⟨rfl,u7.on Zz.out.aQ ur Gy jN⟩
     have tM:Hid (fu (l.map MR.ay) (dz Q G)=En.search ((l.map MR.ay).map En.cS) 200 (202-0) 0 (mstart (l.map MR.ay) (dz Q G))):=(rfl:fu (l.map MR.ay) (dz Q G)=_)
     generalize hms:fu (l.map MR.ay) (dz Q G)=Jm at tM
     have HMS:Hid (fu (l.map MR.ay) (dz Q G)=Jm):=hms
     clear hms
     clear Zz
     go_wp2_with (go_at_call 188;refine ff.out.mono ?_;rintro e w3 ⟨rfl,HM3⟩)
     have Xv:Hid (Hr w1 w3 sb mb (.slice rd l.length rc) (T0.map HT.key) ((l.map MR.ay).map En.cS) 0 (mstart (l.map MR.ay) (dz Q G)) Jm):=⟨HM3.out,tM.out.symm,by omega,DZ.1,fun f=>by have:=DZ.2 f;omega⟩
     clear DZ HM3 ff tM
     go_loopw [12] (fun i wr=>∃(n:Nat) (s:En.dH En.b7),i=.int .i64 n∧Hr w1 wr sb mb (.slice rd l.length rc) (T0.map HT.key) ((l.map MR.ay).map En.cS) n s Jm) (fun i _=>202-(intOf i).toNat)
     case atStart=>exact⟨0,_,rfl,Xv.out⟩
     case round=>
      obtain⟨n,s,rfl,P5⟩:=hrel
      have G5:Hid (Hr w1 wr sb mb (.slice rd l.length rc) (T0.map HT.key) ((l.map MR.ay).map En.cS) n s Jm):=P5
      obtain⟨fd,fc,T,MU,ur,Gy⟩:=P5.rel.at_
      have agk:=P5.le
      have hf3:=P5.found
      have HSA:Hid (mK wr sb mb (.slice rd l.length rc) fd fc T s):=MU
      have HKA:Hid (T.map HT.key=T0.map HT.key):=ur
      have Ey:Hid (∀b,b∈dI sb fd fc s.found.length T→w1.heap.size≤b):=Gy
      have s2:wr.cell? ⟨sb,2,none⟩=some (.slice fd s.found.length fc):=by rw[cell_of_row _ _ 2 _ _ _ MU.cP];rfl
      have s1:wr.cell? ⟨sb,1,none⟩=some (.map (some mb)):=by rw[cell_of_row _ _ 1 _ _ _ MU.cP];rfl
      have hsb:=lt_of_heap MU.cP
      have HBE:Hid (Below w.heap.size w wr):=lh.out.trans (P5.rel.aQ.mono lh.out.size)
      clear P5 MU ur Gy Xv
      by_cases qQ:n<s.found.length
      · by_cases Xr:200<s.found.length
        · have sP:Hid (Jm=none):=by
           have h1:=G5.out.res
           rw[show 202-n=(201-n)+1 by omega,En.Eu qQ Xr]at h1
           exact h1.symm
          go_wp2_with fail
          go_ret2
          exact⟨Q,⟨HQ.out.2.2.1,HQ.out.2.2.2⟩,⟨HBE.out,.inr ⟨rfl,by rw[HMS.out,sP.out]⟩⟩⟩
        · obtain⟨m1,m2,m3,m4⟩:=OS EE HL.out.two qQ (by omega) G5.out.count
          have HRN:Hid (En.search ((l.map MR.ay).map En.cS) 200 (202-(n+1)) (n+1) (En.meet ((l.map MR.ay).map En.cS) s n)=Jm):=by
           have h1:=G5.out.res
           rw[show 202-n=(202-(n+1))+1 by omega,En.Le qQ (by omega)]at h1
           exact h1
          have EJ:Hid (Calls Tryz.prog 189 #[.pointer (some ⟨sb,0,none⟩),.int .i64 n] wr fun e w5=>e=.returned (.tuple #[])∧Hid (Hr w1 w5 sb mb (.slice rd l.length rc) (T0.map HT.key) ((l.map MR.ay).map En.cS) (n+1) (En.meet ((l.map MR.ay).map En.cS) s n) Jm)):=by
           have hpz:s.found.take (n+1)=s.found.take n++[s.found[n]]:=by rw[List.take_add_one,List.getElem?_eq_getElem qQ];rfl
           refine(Mo wr sb mb rd rc l fd fc T s HSA.out (OL.out _ G5.out.rel.aQ) (HTN.out T HKA.out) (by omega) (s.found.take n) s.found[n] n (by simp;omega) qQ hpz (by omega) (fun f=>by have:=G5.out.count f;omega)).mono ?_
           rintro e w5 ⟨rfl,jN⟩
           rw[m2]at jN
           exact⟨rfl,u7.on G5.out.rel.aQ HKA.out Ey.out jN,HRN.out,by omega,m3,m4⟩
          clear m1 m2 m3 m4
          go_wp2_with (go_at_call 189;refine EJ.out.mono ?_;rintro e w5 ⟨rfl,HM5⟩)
          go_roundw
          case rel=>exact⟨n+1,_,by go_num,HM5.out⟩
          case measure=>simp[intOf];omega
      · have sP:Hid (Jm=some s):=by
         have h1:=G5.out.res
         rw[show 202-n=(201-n)+1 by omega,En.Fo qQ]at h1
         exact h1.symm
        go_wp2_with fail
        go_ret2
        exact⟨Q,⟨HQ.out.2.2.1,HQ.out.2.2.2⟩,⟨HBE.out,.inl ⟨mb,T,s,rfl,by rw[HMS.out,sP.out],HSA.out.toH,by rw[QF HKA.out];exact Vp.out,fun b hb=>Nat.le_trans lh.out.size (KO O6 Ey.out b hb)⟩⟩⟩
end
/- Package record: Content. -/
section
open Go.RowKit
theorem wI{w:World}{B:Nat}{v:Value}{n:Nat}{l:List UInt8}(h:w.ownsRow B 5 1 v n (Rc.bP l))(hl:l≠[]):(convert 63 9 v).run Tryz.prog w=.ok (.string ⟨l.toArray⟩) w:=by
 have hn:l.length=n:=by have:=h.1;rw[Rc.bN]at this;omega
 have hp:0<l.length:=List.length_pos_iff.2 hl
 obtain⟨vd,vc,rfl⟩:=aj h
 obtain⟨g,rfl,hg,hc,br⟩:=aD h (by omega)
 subst hn
 refine run_convert_bytes_back w 63 9 5 ⟨g,0,none⟩ vc l Tryz.underlying63 Tryz.underlying5 Tryz.underlying9 ?_
 intro j hj
 have ef:(⟨g,0,none⟩:Addr).add j=⟨g,j,none⟩:=by unfold Addr.add;split<;>simp_all
 rw[ef]
 refine br j _ ?_
 rw[Rc.bP,List.getElem?_map,List.getElem?_eq_getElem hj]
 rfl
theorem Rc.JI(l:List FI):Rc.kF l≠[]:=by
 unfold Rc.kF Rc.aZ
 split<;>simp
theorem De(w:World)(cd:Option Addr)(cc:Nat)(dX:List FI)(gd:Option Addr)(gc:Nat)(gone:List FI)(hc:dW w cd cc dX)(hg:dW w gd gc gone)(h1:mU dX)(h2:mU gone):
 Calls Tryz.prog 69 #[.slice cd dX.length cc,.slice gd gone.length gc] w fun e w'=>e=.returned (.string ⟨(Rc.fL dX gone).toArray⟩)∧Below w.heap.size w w':=by
 have OJ:=nM w.heap.size w (.slice none 0 0) 0 [] cd cc dX hc h1 (World.ownsRow_nil _ _ _ _) (Nat.le_refl _) (by omega)
 have RY:Hid (∀w1 v1 n1,qN w.heap.size w w1 v1 n1 ([]++Rc.bP (Rc.kF dX))→Calls Tryz.prog 129 #[v1,.slice gd gone.length gc] w1 fun e w2=>∃v2,e=.returned v2∧(convert 63 9 v2).run Tryz.prog w2=.ok (.string ⟨(Rc.fL dX gone).toArray⟩) w2∧Hid (Below w.heap.size w w2)):=by
  intro w1 v1 n1 kI
  have LN:n1≤10000000000:=by
   have h3:=kI.len
   have h4:=h1.facts dX.length
   have h5:=Rc.ry dX.length (by have:=h1.Cf;omega)
   rw[List.take_length]at h4
   rw[List.nil_append,Rc.bN,Rc.kF,List.length_append]at h3
   omega
  refine(nM w.heap.size w1 v1 n1 _ gd gc gone (hg.below kI.aQ) h2 kI.own kI.aQ.size LN).mono ?_
  rintro e w2 ⟨v2,n2,rfl,Ze⟩
  refine⟨v2,rfl, ?_,kI.aQ.trans Ze.aQ⟩
  refine wI (B:=w.heap.size) (n:=n2) ?_ ?_
  · have:=Ze.own
    rw[List.nil_append,←Rc.gz]at this
    exact this
  · have:=Rc.JI dX
    unfold Rc.fL
    simp[this]
 clear hc hg h1 h2
 generalize Rc.fL dX gone=cb at RY
 have Sn:Hid (Calls Tryz.prog 129 #[.slice none 0 0,.slice cd dX.length cc] w fun e w1=>∃v1,e=.returned v1∧Calls Tryz.prog 129 #[v1,.slice gd gone.length gc] w1 fun e w2=>∃v2,e=.returned v2∧(convert 63 9 v2).run Tryz.prog w2=.ok (.string ⟨cb.toArray⟩) w2∧Hid (Below w.heap.size w w2)):=by
  refine OJ.mono ?_
  rintro e w1 ⟨v1,n1,rfl,ach⟩
  exact⟨v1,rfl,RY.out w1 v1 n1 ach⟩
 clear OJ RY
 go_enter Tryz.func69,Tryz.ntmps69
 go_wp2_with (go_at_call 129;first | (refine Sn.out.mono ?_;rintro e w1 ⟨v1,rfl,Jn⟩;clear Sn) | (refine Jn.mono ?_;rintro e w2 ⟨v2,rfl,PV,cw⟩))
 go_ret
 exact⟨rfl,cw.out⟩
end
end Go.Proofs.YtdmicblafmhflaaGreatDoor
