/- NoneGiven: empty tables. -/
import Derived.Test.YtdmicblafmhflaaGreatDoorC21
import Derived.Test.YtdmicblafmhflaaGreatDoorC22
import Derived.Test.YtdmicblafmhflaaGreatDoorC23
import Derived.Test.YtdmicblafmhflaaGreatDoorC18
import Derived.Deep.RegionHeld3
set_option linter.unusedSimpArgs false
set_option linter.unusedVariables false
set_option maxHeartbeats 2000000
set_option maxRecDepth 100000
namespace Go.Proofs.YtdmicblafmhflaaGreatDoor
section
open Go.RowKit Go.Maps Go.WideMaps Go.WideElems
def xM(p:Pd.Pr)(g:Nat):GT:=⟨p.1,p.2,g,none,0,[]⟩
theorem xv(p:Pd.Pr)(g:Nat):(xM p g).bZ=[g]:=rfl
def tX(t:GT):Pd.Pr:=(t.nm,t.pl)
theorem Nk{w:World}{p:Pd.Pr}{g:Nat}(h:w.heap[g]?=some (.cells #[.string p.1,.int .i64 p.2,.slice none 0 0] 125 (0,0))):(xM p g).ok w:=⟨h,⟨(by intro r hr;cases hr),World.ownsRow_nil _ _ _ _⟩,List.Pairwise.nil,by decide⟩
structure og(w wr:World)(mb k:Nat)(Q:List Pd.Pr)(T:List GT):Prop where
 map:∃D,wr.ownsMap Tryz.prog 9 cR mb k D∧Fi D (T.map GT.key)
 b7:∀t,t∈T→t.ok wr∧∃p g,t=xM p g∧mb<g
 apart:T.Pairwise GO
 ny:T.map tX=(Q.take k).reverse
 aZ:Below w.heap.size w wr
 Wq:mb=w.heap.size
theorem DT{w wr w3:World}{mb k:Nat}{Q:List Pd.Pr}{T:List GT}{o1:Obj}(h:og w wr mb k Q T)(hk:k<Q.length){D:DataW Unit}(hD:Fi D (T.map GT.key))(hm:IsMap D)
 (hw:w3.ownsMap Tryz.prog 9 cR mb (k+1) (D.put (aY (Q[k]).1) (.lit (.int .i64 (wr.heap.size+1:Nat)))))(hg:((wr.alloc o1).alloc (.cells (match Q[k]with | p=>#[.string p.1,.int .i64 p.2,.slice none 0 0]) 125)).grownBy w3 (some mb)):
 og w w3 mb (k+1) Q (xM Q[k] (wr.heap.size+1)::T):=by
 have fq:Kb [mb] ((wr.alloc o1).alloc (.cells (match Q[k]with | p=>#[.string p.1,.int .i64 p.2,.slice none 0 0]) 125)) w3:=Kb.dz hg
 have cM:Below wr.heap.size wr ((wr.alloc o1).alloc (.cells (match Q[k]with | p=>#[.string p.1,.int .i64 p.2,.slice none 0 0]) 125)):=((Below.refl _ _).alloc (Nat.le_refl _) _).alloc (by simp) _
 have hs:=h.aZ.size
 have aE:∀t,t∈T→∀b,b∈t.bZ→b<wr.heap.size∧mb<b:=by
  intro t ht b hb
  obtain⟨dD,p,g,rfl,Vc⟩:=h.b7 t ht
  refine⟨dD.lt hb, ?_⟩
  rw[xv,List.mem_singleton]at hb
  rw[hb];exact Vc
 have Pz:=h.Wq
 refine⟨⟨_,hw,Bd hD hm _ _⟩, ?_, ?_, ?_, ?_,Pz⟩
 · intro t ht
   rcases List.mem_cons.1 ht with rfl | ht
   · refine⟨Nk ?_,_,_,rfl,by omega⟩
     have:=fq.heap (qv wr o1 _) (by simp;omega)
     exact this
   · obtain⟨dD,p,g,e,Vc⟩:=h.b7 t ht
     refine⟨(dD.below cM).kept fq ?_,p,g,e,Vc⟩
     intro b hb hc
     simp only[List.mem_singleton]at hc
     have:=(aE t ht b hb).2
     omega
 · refine List.pairwise_cons.2 ⟨?_,h.apart⟩
   intro t ht x hx LP
   rw[xv,List.mem_singleton]at hx
   have:=(aE t ht x LP).1
   omega
 · have e:Q.take (k+1)=Q.take k++[Q[k]]:=by rw[List.take_add_one,List.getElem?_eq_getElem hk];rfl
   rw[e,List.reverse_append,List.map_cons,h.ny]
   rfl
 · exact fq.aK (h.aZ.trans (cM.mono hs)) (by simp;omega) (by simp;omega)
theorem lK(w:World)(B:Nat)(qd:Option Addr)(qc:Nat)(Q:List Pd.Pr)(hq:w.ownsRow B 112 2 (.slice qd Q.length qc) Q.length (aB Q))(hl:Q.length≤1000)(hs:∀p,p∈Q→p.1.size≤1000000):
 Calls Tryz.prog 58 #[.slice qd Q.length qc] w fun e w'=>∃T,e=.returned (.map (some w.heap.size))∧og w w' w.heap.size Q.length Q T:=by
 have WA:=@run_makeMap Tryz.prog
 have HS:Hid (∀p,p∈Q→p.1.size≤1000000):=hs
 clear hs
 go_enter Tryz.func58,Tryz.ntmps58
 go_wp2_with fail
 go_loopw [9] (fun i wr=>∃(k:Nat) (T:List GT),k≤Q.length∧i=.int .i64 k∧og w wr w.heap.size k Q T) (fun i _=>Q.length-(intOf i).toNat)
 case atStart=>exact⟨0,[],Nat.zero_le _,rfl,⟨⟨_,World.ownsMap_made _ _ _ _,B4⟩,by simp,List.Pairwise.nil,by simp,(Below.refl _ _).alloc (Nat.le_refl _) _,rfl⟩⟩
 case round=>
  obtain⟨k,T,hk,rfl,hn⟩:=hrel
  obtain⟨D,al,hD⟩:=hn.map
  have HN:Hid (og w wr w.heap.size k Q T):=hn
  have HD:Hid (Fi D (T.map GT.key)):=hD
  have hDm:=al.isMap
  have Pz:=al.lt
  have aU:=hn.aZ
  have cE:=aU.size
  have HB:Hid (Below w.heap.size w wr):=aU
  clear hD hn
  by_cases aE:k<Q.length
  · have bQ:=ae hq aU
    obtain⟨g,rfl,hg,hc,bH⟩:=aD bQ (by omega)
    have fG:=bH _ _ (aT Q k aE).1
    have fC:=bH _ _ (aT Q k aE).2
    have ux:(Q[k]).1.size≤1000000:=HS.out _ (List.getElem_mem aE)
    have yF:Hid (∀w3 o1,w3.ownsMap Tryz.prog 9 cR w.heap.size (k+1) (D.put (aY (Q[k]).1) (.lit (.int .i64 (wr.heap.size+1:Nat))))→((wr.alloc o1).alloc (.cells (match Q[k]with | p=>#[.string p.1,.int .i64 p.2,.slice none 0 0]) 125)).grownBy w3 (some w.heap.size)→og w w3 w.heap.size (k+1) Q (xM Q[k] (wr.heap.size+1)::T)):=fun w3 o1 a b=>DT HN.out aE HD.out hDm a b
    generalize Q[k]=x at fG fC ux yF
    have mH:keyOf Tryz.prog 9 (.string x.1)=some (aY x.1):=keyOf_string_mk Tryz.underlying9 (by unfold maxLen;omega)
    have HK:Hid (keyOf Tryz.prog 9 (.string x.1)=some (aY x.1)):=mH
    clear mH bH bQ aU hq
    go_wp2_with (at_mapUpdate;go_must (refine wpList_mapUpdate_own _ rfl _ _ _ 102 rfl 9 122 Tryz.gq Tryz.underlying102 _ w.heap.size k D rfl ((al.alloc _).alloc _) (by unfold maxLen;omega) _ _ (aY x.1) rfl rfl HK.out (.lit (.int .i64 (wr.heap.size+1:Nat))) [] (by rfl) ?_;intro w3 fB gp))
    go_roundw
    case rel=>exact⟨k+1,_,by omega,by go_num,yF.out _ _ fB gp⟩
    case measure=>simp[intOf];omega
  · have va:k=Q.length:=by omega
    have HE:Hid (og w wr w.heap.size Q.length Q T):=by rw[←va];exact HN.out
    clear aU va
    go_wp2_with fail
    go_ret
    exact⟨T,rfl,HE.out⟩
end
/- facts.CopyGiven. -/
section
open Go.RowKit Go.Maps Go.WideMaps Go.WideElems
def jZ(t:GT):ByteArray×Nat×List (List ByteArray):=(t.nm,t.pl,t.L)
theorem G5{G:List GT}(hn:(G.map GT.nm).Nodup){left:Lit→Bool}{t:GT}(ht:t∈G)(hl:left (aY t.nm)=true):
 (jP left G).Perm (t::jP (fun z=>left z&& !z.sameKey (aY t.nm)) G):=by
 induction G with
 | nil=>simp at ht
 | cons a G ih=>
  simp only[List.map_cons,List.nodup_cons]at hn
  unfold jP at ih ⊢
  rcases List.mem_cons.1 ht with rfl | ht
  · have e1:G.filter (fun z=>left (aY z.nm)&& !(aY z.nm).sameKey (aY t.nm))=G.filter (fun z=>left (aY z.nm)):=by
     refine List.filter_congr fun z hz=> ?_
     have:(aY z.nm).sameKey (aY t.nm)=false:=sameKey_ne (fun e=>hn.1 (by rw[←ke e];exact List.mem_map_of_mem hz))
     simp[this]
    have e2:(aY t.nm).sameKey (aY t.nm)=true:=by simp[Lit.sameKey,aY]
    simp only[List.filter_cons,hl,e2,e1]
    simp
  · have h1:=ih hn.2 ht
    have:(aY a.nm).sameKey (aY t.nm)=false:=sameKey_ne (fun e=>hn.1 (by rw[ke e];exact List.mem_map_of_mem ht))
    simp only[List.filter_cons,this]
    cases left (aY a.nm)
    · simpa using h1
    · simp
      exact(h1.cons a).trans (List.Perm.swap t a _)
structure lH(w wr:World)(mb:Nat)(G R N:List GT):Prop where
 map:∃D,wr.ownsMap Tryz.prog 9 cR mb N.length D∧Fi D (N.map GT.key)
 b7:∀t,t∈N→t.ok wr∧∀b,b∈t.bZ→mb+1<b
 apart:N.Pairwise GO
 data:(N.map jZ++R.map jZ).Perm (G.map jZ)
 aZ:Below w.heap.size w wr
 Wq:mb=w.heap.size
theorem lH.CZ{w wr:World}{mb:Nat}{G R N:List GT}(h:lH w wr mb G R N):N.length≤G.length:=by
 have:=h.data.length_eq
 simp at this
 omega
theorem lH.next{w wr w1:World}{mb:Nat}{G R N:List GT}(h:lH w wr mb G R N)(hg:wr.grownBy w1 (some (mb+1)))(aE:mb<wr.heap.size):lH w w1 mb G R N:=by
 have hk:Kb [mb+1] wr w1:=Kb.dz hg
 obtain⟨D,⟨es,ck,hb,hr⟩,hD⟩:=h.map
 have hm:=h.Wq
 refine⟨⟨D,⟨es,ck,hk.heap hb (by simp),hr⟩,hD⟩,fun t ht=>⟨(h.b7 t ht).1.kept hk (fun b hb=> ?_),(h.b7 t ht).2⟩,h.apart,h.data,hk.aK h.aZ h.aZ.size (by simp;omega),hm⟩
 have:=(h.b7 t ht).2 b hb
 simp
 omega
theorem yV{w:World}{B:Nat}{e:TypeId}{size:Nat}{v:Value}{n:Nat}{xs:List Value}(h:w.ownsRow B e size v n xs):w.ownsRow 0 e size v n xs:=by
 refine⟨h.1, ?_⟩
 rcases h.2 with h2 | ⟨g,cap,cur,e1,_,h3⟩
 · exact .inl h2
 · exact .inr ⟨g,cap,cur,e1,Nat.zero_le _,h3⟩
theorem lH.step{w w1 w5 w6 w7:World}{mb:Nat}{G R R' N:List GT}{t:GT}(h:lH w w1 mb G R N)(Pz:mb+1<w1.heap.size)(hp:R.Perm (t::R'))(Uv:Tb.Ord t.L)(h3:p7 t.L){rd:Option Addr}{rc:Nat}(la:Below w1.heap.size w1 w5)
 (ho:w5.ownsRow w1.heap.size 119 3 (.slice rd t.L.length rc) t.L.length (aM t.L))(h6:w6=w5.alloc (.cells #[.string t.nm,.int .i64 t.pl,.slice rd t.L.length rc] 125))
 {D:DataW Unit}(hD:Fi D (N.map GT.key))(hm:IsMap D)(hw:w7.ownsMap Tryz.prog 9 cR mb (N.length+1) (D.put (aY t.nm) (.lit (.int .i64 (w5.heap.size:Nat)))))(hg:w6.grownBy w7 (some mb)):
 lH w w7 mb G R' (⟨t.nm,t.pl,w5.heap.size,rd,rc,t.L⟩::N):=by
 subst h6
 have hk:Kb [mb] (w5.alloc (.cells #[.string t.nm,.int .i64 t.pl,.slice rd t.L.length rc] 125)) w7:=Kb.dz hg
 have ot:Below w1.heap.size w1 (w5.alloc (.cells #[.string t.nm,.int .i64 t.pl,.slice rd t.L.length rc] 125)):=la.alloc la.size _
 have hs5:=la.size
 have kV:=h.aZ.size
 have abY:=h.Wq
 have vB:∀b,Value.ownBlock (.slice rd t.L.length rc)=some b→w1.heap.size≤b∧b<w5.heap.size:=fun b hb=>ho.lt b hb
 refine⟨⟨_,hw,Bd hD hm _ _⟩, ?_, ?_, ?_, ?_,abY⟩
 · intro u hu
   rcases List.mem_cons.1 hu with rfl | hu
   · refine⟨⟨?_,⟨h3, ?_⟩,Uv,by decide⟩, ?_⟩
     · have:=hk.heap (heap_alloc_new w5 _) (by simp;omega)
       exact this
     · exact hk.row ((yV ho).alloc _) (fun b hb=>by have:=vB b hb;simp;omega)
     · intro b hb
       simp only[GT.bZ,List.mem_cons,Option.mem_toList]at hb
       rcases hb with rfl | hb
       · omega
       · have:=vB b hb;omega
   · refine⟨((h.b7 u hu).1.below ot).kept hk (fun b hb=> ?_),(h.b7 u hu).2⟩
     have:=(h.b7 u hu).2 b hb
     simp
     omega
 · refine List.pairwise_cons.2 ⟨?_,h.apart⟩
   intro u hu x hx LP
   have h1:=(h.b7 u hu).1.lt LP
   simp only[GT.bZ,List.mem_cons,Option.mem_toList]at hx
   rcases hx with rfl | hx
   · omega
   · have:=vB x hx;omega
 · refine List.Perm.trans ?_ h.data
   have e:(R.map jZ).Perm (jZ t::R'.map jZ):=hp.map jZ
   have h1:(N.map jZ++R.map jZ).Perm (jZ t::(N.map jZ++R'.map jZ)):=(e.append_left _).trans List.perm_middle
   exact h1.symm
 · exact hk.aK (h.aZ.trans (ot.mono kV)) (by simp;omega) (by simp;omega)
theorem za(w:World)(mb:Nat)(G:List GT)(h:lB w mb G)(hs:∀t,t∈G→t.L.length≤999999)(hGl:G.length≤1000):
 Calls Tryz.prog 126 #[.map (some mb)] w fun e w'=>∃N,e=.returned (.map (some w.heap.size))∧lH w w' w.heap.size G [] N:=by
 have WA:=@run_makeMap Tryz.prog
 obtain⟨n,D,al,hn,hD⟩:=h.map.has
 have fm:=al.lt
 have HG:Hid (lB w mb G):=h
 have HD:Hid (Fi D (G.map GT.key)):=hD
 have HS:Hid (∀t,t∈G→t.L.length≤999999):=hs
 have e1:(w.alloc (.map #[] 0)).heap.size=w.heap.size+1:=by simp
 clear h hD hs
 go_enter Tryz.func126,Tryz.ntmps126
 go_wp2_with (first
  | (at_range;refine wpList_range_own _ rfl _ 102 rfl 9 122 Tryz.gq Tryz.underlying102 _ mb n _ rfl (al.alloc _) ?_;intro w0 R3 mN E4)
  | go_in)
 go_frame
 rw[e1]at R3 E4 ⊢
 go_loopw [9] (fun _ wr=>∃(left:Lit→Bool) (lu:Nat) (N:List GT),wr.ranges Tryz.prog 9 cR mb (w.heap.size+1) n D left lu∧(∀kl,left kl=true→has D kl=true)∧lH w wr w.heap.size G (jP left G) N)
  (fun _ wr=>wr.rangeLeft mb (w.heap.size+1))
 case atStart=>
  have e:jP (has D) G=G:=by
   refine List.filter_eq_self.2 fun t ht=> ?_
   rw[(HD.out t.nm).1,iW HG.out.names ht]
   rfl
  refine⟨_,_,[],R3,fun _ h=>h,⟨⟨_,(World.ownsMap_made _ _ _ _).kept mN (by simp),B4⟩,by simp,List.Pairwise.nil,by rw[e];simp,((Below.refl _ _).alloc (Nat.le_refl _) _).grown mN (by simp) (fun j hj=>by cases hj),rfl⟩⟩
 case round=>
  obtain⟨left,lu,N,Ww,Wp,S3⟩:=hrel
  go_wp2_with (first
   | (at_next;refine wpList_next_ranges _ rfl _ rfl 9 Tryz.gq cR Value.string Value.pointer (fun key kl mH=>Maps.keyOf_string_inv Tryz.underlying9 mH) uu mb (w.heap.size+1) n _ _ _ rfl Ww ?_ ?_)
   | go_in)
  · intro Ol NW
    rw[wb NW]at S3
    go_wp2
    go_ret
    exact⟨N,rfl,S3⟩
  · intro x c kl y ps w1 Jm Rr T6 Z0 u9 JR aE fy kV hen
    obtain⟨rfl,t,ht,rfl,rfl⟩:=uM HD.out Wp Rr T6 Z0 u9
    have hrl:=JR.lt
    have OA:=S3.next fy (by omega)
    have hT:cp w1 t.g 125 t.nm t.pl t.rd t.rc t.L []:=(HG.out.b7 t ht).below OA.aZ
    have SO:=HS.out t ht
    obtain⟨c2,f2,c1,c0⟩:=hT.lE
    have Cd:=lt_of_heap hT.cU
    obtain⟨D2,yE,hD2⟩:=OA.map
    have GY:=OA.CZ
    have yF:∀w5 w7 rd rc,(Below w1.heap.size w1 w5∧w5.ownsRow w1.heap.size 119 3 (.slice rd t.L.length rc) t.L.length (aM t.L))→w7.ownsMap Tryz.prog 9 cR w.heap.size (N.length+1) (D2.put (aY t.nm) (.lit (.int .i64 (w5.heap.size:Nat))))→(w5.alloc (.cells #[.string t.nm,.int .i64 t.pl,.slice rd t.L.length rc] 125)).grownBy w7 (some w.heap.size)→
     ∃N',lH w w7 w.heap.size G (jP (fun z=>left z&& !z.sameKey (aY t.nm)) G) N'∧w7.ranges Tryz.prog 9 cR mb (w.heap.size+1) n D (fun z=>left z&& !z.sameKey (aY t.nm)) Jm:=by
     intro w5 w7 rd rc hh hw hg
     obtain⟨la,YN⟩:=hh
     refine⟨_,OA.step (by omega) (G5 HG.out.names ht T6) hT.ord hT.rows.three la YN rfl hD2 yE.isMap hw hg, ?_⟩
     have h5:w5.ranges Tryz.prog 9 cR mb (w.heap.size+1) n D (fun z=>left z&& !z.sameKey (aY t.nm)) Jm:=JR.kept (row:=none) ⟨la.os,la.tape,la.output,la.size,fun i hi _=>la.block i hi⟩ (by simp) (by simp)
     exact(h5.alloc _).kept hg (fun e=>by have:=Option.some.inj e;omega) (fun e=>by have:=Option.some.inj e;omega)
    have vv:Hid (∀W,Below w1.heap.size w1 W→Calls Tryz.prog 133 #[.pointer (some ⟨t.g,0,none⟩)] W fun e w5=>∃rd rc w7,e=.returned (.slice rd t.L.length rc)∧w5.cell? ⟨t.g,0,none⟩=some (.string t.nm)∧w5.cell? ⟨t.g,1,none⟩=some (.int .i64 t.pl)∧
     (Instr.mapUpdate 102 (.map (some w.heap.size)) (.string t.nm) (.pointer (some ⟨w5.heap.size,0,none⟩))).run Tryz.prog (w5.alloc (.cells #[.string t.nm,.int .i64 t.pl,.slice rd t.L.length rc] 125))=.ok () w7∧w7.cell? ⟨t.g,0,none⟩=some (.string t.nm)∧w7.cell? ⟨t.g,1,none⟩=some (.int .i64 t.pl)∧
     Hid (∃N',lH w w7 w.heap.size G (jP (fun z=>left z&& !z.sameKey (aY t.nm)) G) N'∧w7.ranges Tryz.prog 9 cR mb (w.heap.size+1) n D (fun z=>left z&& !z.sameKey (aY t.nm)) Jm)):=by
     intro W hW
     refine(xC W t.g _ _ _ _ _ _ _ (hT.below hW) SO).mono ?_
     rintro e w5 ⟨rd,rc,rfl,q1,q2⟩
     have la:Below w1.heap.size w1 w5:=hW.trans (q2.mono hW.size)
     have hT5:=(hT.below la).lE
     have YN:w5.ownsMap Tryz.prog 9 cR w.heap.size N.length D2:=by
      obtain⟨es,ck,hb,hr⟩:=yE
      exact⟨es,ck,by rw[la.block _ (lt_of_heap hb)];exact hb,hr⟩
     obtain⟨w7,Mr,r1,r2⟩:=(YN.alloc (.cells #[.string t.nm,.int .i64 t.pl,.slice rd t.L.length rc] 125)).update Tryz.gq Tryz.underlying102 (by unfold maxLen;omega) Rr (val:=.pointer (some ⟨w5.heap.size,0,none⟩)) (d:=.lit (.int .i64 (w5.heap.size:Nat))) (ps:=[]) (by rfl)
     obtain⟨N',s1,s2⟩:=yF w5 w7 rd rc ⟨la,aG q1 hW.size⟩ r1 r2
     have Ua:=cp.lE ((HG.out.b7 t ht).below s1.aZ)
     exact⟨rd,rc,w7,rfl,hT5.2.2.2,hT5.2.2.1,Mr,Ua.2.2.2,Ua.2.2.1,N',s1,s2⟩
    have Ty:Hid (wr.rangeLeft mb (w.heap.size+1)=lu):=Ww.left_eq
    have HLH:Hid (∀kl,left kl=true→has D kl=true):=Wp
    generalize hL:t.L.length=tl at vv
    generalize t.nm=nm at*
    generalize t.pl=pl at*
    generalize t.g=tg at*
    clear yF JR OA hT c2 f2 S3 Ww fy kV u9 Z0 Rr al Wp yE hD2 hL SO
    go_wp2_with fail
    go_region_held3 (fun w'=>w'.cell? ⟨tg,0,none⟩=some (.string nm)∧w'.cell? ⟨tg,1,none⟩=some (.int .i64 pl)) (go_keep) ((go_at_call 133;refine(vv.out _ (by exact(Below.refl _ _).drew)).mono ?_;rintro e w5 ⟨rd,rc,w7,rfl,c50,c51,hmu,c70,c71,UH⟩))
    go_wp2_with fail
    go_roundw
    case rel=>
     obtain⟨N',r1,r2⟩:=UH.out
     exact⟨_,Jm,N',r2,fun kl h=>HLH.out kl (by simp at h;exact h.1),r1⟩
    case measure=>
     obtain⟨N',r1,r2⟩:=UH.out
     rw[r2.left_eq,Ty.out]
     exact aE
end
/- Package follow: hold. -/
section
open Go.RowKit Go.Maps Go.WideMaps Go.WideElems
open Go.Sort (grow)
theorem Tryz.NR:(Tryz.prog.info? 325).map (fun i=>(i.zero,i.size,i.bytes))=some (some (.agg #[.string ByteArray.empty,.string ByteArray.empty,.string ByteArray.empty,.string ByteArray.empty]),4,64):=by kernel_rfl
theorem Tryz.BJ(w:World):(zeroValue 97).run Tryz.prog w=.ok (.pointer none) w:=by kernel_rfl
def AY(w w':World)(fd:Option Addr)(fc n:Nat):Prop:=∀b,Value.ownBlock (.slice fd n fc)=some b→(∃cur,w'.heap[b]?=some (.cells cur 325 (0,0)))∧∀j,j<n*4→w'.cell? ⟨b,j,none⟩=w.cell? ⟨b,j,none⟩
structure iy(w w':World)(sb mb:Nat)(rv:Value)(fd:Option Addr)(fc:Nat)(T:List HT)(s s':En.dB En.cl):Prop where
 on:∃OE Oj T',mM w' sb mb rv OE Oj T' s'∧T'.map HT.key=T.map HT.key∧(∀b,b∈dA sb OE Oj s'.found.length T'→b∈dA sb fd fc s.found.length T∨w.heap.size≤b)
 kept:Kb (dA sb fd fc s.found.length T) w w'
 cells:AY w w' fd fc s.found.length
theorem xy{sb:Nat}{fd:Option Addr}{fc n:Nat}{A B:List HT}{t:HT}{b:Nat}(hb:b∈t.bZ):b∈dA sb fd fc n (A++t::B):=by
 unfold dA
 simp only[List.mem_cons,List.mem_append,List.mem_flatMap]
 exact .inr (.inr ⟨t,by simp,hb⟩)
theorem AN{w:World}{sb:Nat}{fd OE:Option Addr}{fc Oj n n':Nat}{A B:List HT}{t t':HT}(hf:cw w (.slice fd n fc) (.slice OE n' Oj))(ht:∀b,b∈t'.bZ→b∈t.bZ∨w.heap.size≤b){b:Nat}(hb:b∈dA sb OE Oj n' (A++t'::B)):b∈dA sb fd fc n (A++t::B)∨w.heap.size≤b:=by
 unfold dA at hb ⊢
 rcases List.mem_cons.1 hb with rfl | hb
 · exact .inl (by simp)
 · rcases List.mem_append.1 hb with hb | hb
   · rw[Option.mem_toList]at hb
     rcases hf b hb with e | e
     · exact .inl (by simp only[List.mem_cons,List.mem_append,Option.mem_toList];exact .inr (.inl e))
     · exact .inr e
   · obtain⟨u,hu,cM⟩:=List.mem_flatMap.1 hb
     rcases List.mem_append.1 hu with hu | hu
     · exact .inl (by simp only[List.mem_cons,List.mem_append,List.mem_flatMap];exact .inr (.inr ⟨u,by simp[hu],cM⟩))
     · rcases List.mem_cons.1 hu with rfl | hu
       · rcases ht b cM with e | e
         · exact .inl (xy e)
         · exact .inr e
       · exact .inl (by simp only[List.mem_cons,List.mem_append,List.mem_flatMap];exact .inr (.inr ⟨u,by simp[hu],cM⟩))
theorem qD{w w1:World}{sb mb:Nat}{rv:Value}{fd:Option Addr}{fc:Nat}{A B:List HT}{t:HT}{s:En.dB En.cl}(h0:mM w sb mb rv fd fc (A++t::B) s)(hk:Kb t.bZ w w1){b:Nat}(hb:Value.ownBlock (.slice fd s.found.length fc)=some b):w1.heap[b]?=w.heap[b]?:=by
 obtain⟨cur,e⟩:=aH h0.Bh hb
 rw[hk.block b (lt_of_heap e)]
 intro hc
 obtain⟨jX,U,e',hU⟩:=(h0.b7 t (by simp)).types hc
 rw[e]at e'
 simp only[Option.some.injEq,Obj.cells.injEq]at e'
 rcases hU with rfl | rfl | rfl<;>cases e'.2.1
theorem Rv{w w1:World}{sb mb:Nat}{rv:Value}{fd:Option Addr}{fc:Nat}{A B:List HT}{t t':HT}{s s':En.dB En.cl}(hs:s'.found=s.found)(h0:mM w sb mb rv fd fc (A++t::B) s)(h:MN w1 sb mb rv fd fc (A++t'::B) s.found s')(hk:Kb t.bZ w w1)(ht:∀b,b∈t'.bZ→b∈t.bZ∨w.heap.size≤b)(mH:t'.key=t.key):
 iy w w1 sb mb rv fd fc (A++t::B) s s' where
 on:=by
  refine⟨fd,fc,A++t'::B,⟨by rw[hs];exact h.cU,h.map,by rw[hs];exact h.Bh,h.b7,h.apart,h.names,h.rows,h.vx,h.zero,h.three,h.short⟩,by simp[mH], ?_⟩
  intro b hb
  rw[hs]at hb
  exact AN (cw.refl _ _) ht hb
 kept:=hk.mono fun i hi _=>xy hi
 cells:=fun b hb=>⟨by obtain⟨cur,e⟩:=aH h0.Bh hb;exact⟨cur,(qD h0 hk hb).trans e⟩,fun j _=>World.cell?_of_block (qD h0 hk hb)⟩
theorem RX{w w1 W w2:World}{sb mb:Nat}{rv:Value}{fd:Option Addr}{fc:Nat}{A B:List HT}{t t':HT}{s s':En.dB En.cl}{f:En.cl}(hs:s'.found=s.found++[f])(h0:mM w sb mb rv fd fc (A++t::B) s)(h:MN w1 sb mb rv fd fc (A++t'::B) s.found s')(hk:Kb t.bZ w w1)(ht:∀b,b∈t'.bZ→b∈t.bZ∨w.heap.size≤b)(mH:t'.key=t.key)
 (hW:Below w1.heap.size w1 W){g cap:Nat}(al:w2.ownsRow 0 325 4 (.slice (some ⟨g,0,none⟩) (s.found.length+1) cap) (s.found.length+1) (cq s.found++qz f))(dM:W.grownBy w2 (Value.ownBlock (.slice fd s.found.length fc)))(CJ:cw W (.slice fd s.found.length fc) (.slice (some ⟨g,0,none⟩) (s.found.length+1) cap))
 (uI:∀b:Nat,Value.ownBlock (.slice fd s.found.length fc)=some b→(∃cur,w2.heap[b]?=some (.cells cur 325 (0,0)))∧∀j,j<s.found.length*4→w2.cell? ⟨b,j,none⟩=W.cell? ⟨b,j,none⟩):
 iy w (w2.setCell ⟨sb,2,none⟩ (.slice (some ⟨g,0,none⟩) (s.found.length+1) cap)) sb mb rv fd fc (A++t::B) s s':=by
 have hlen:s'.found.length=s.found.length+1:=by rw[hs];simp
 have lN:Kb (Value.ownBlock (.slice fd s.found.length fc)).toList W w2:=Kb.dz dM
 have hfW:W.ownsRow 0 325 4 (.slice fd s.found.length fc) s.found.length (cq s.found):=ae h.Bh hW
 have hty:∀b,b∈(Value.ownBlock (.slice fd s.found.length fc)).toList→∃cur,W.heap[b]?=some (.cells cur 325 (0,0)):=by
  intro b hb
  rw[Option.mem_toList]at hb
  exact aH hfW hb
 have S8:W.heap[sb]?=some (.cells #[rv,.map (some mb),.slice fd s.found.length fc] 322 (0,0)):=by rw[hW.block _ (lt_of_heap h.cU)];exact h.cU
 have SZ:w2.heap[sb]?=some (.cells #[rv,.map (some mb),.slice fd s.found.length fc] 322 (0,0)):=by
  refine lN.heap S8 ?_
  intro hc
  obtain⟨cur,e⟩:=hty sb hc
  rw[S8]at e
  cases e
 have sk:=Kb.setCell w2 ⟨sb,2,none⟩ (.slice (some ⟨g,0,none⟩) (s.found.length+1) cap)
 have sC:Kb (Value.ownBlock (.slice fd s.found.length fc)).toList w1 w2:=(Kb.bF hW _).trans lN
 have qB:Kb (sb::(Value.ownBlock (.slice fd s.found.length fc)).toList) w1 (w2.setCell ⟨sb,2,none⟩ (.slice (some ⟨g,0,none⟩) (s.found.length+1) cap)):=by
  refine Kb.trans' (sC.mono fun i hi _=>List.mem_cons_of_mem _ hi) sk ?_
  intro i hi _
  simp only[List.mem_singleton]at hi
  subst hi
  simp
 have kV:w.heap.size≤w1.heap.size:=hk.size
 refine⟨⟨some ⟨g,0,none⟩,cap,A++t'::B,⟨?_, ?_, ?_, ?_,h.apart,h.names,h.rows,h.vx,h.zero,h.three,h.short⟩,by simp[mH], ?_⟩, ?_, ?_⟩
 · rw[an w2 SZ,hlen]
   rfl
 · refine h.map.kept qB ?_
   intro hc
   obtain⟨es,ck,eb⟩:=h.map.block
   rcases List.mem_cons.1 hc with rfl | hc
   · rw[h.cU]at eb;cases eb
   · rw[Option.mem_toList]at hc
     obtain⟨cur,e⟩:=aH h.Bh hc
     rw[eb]at e
     cases e
 · rw[hlen,hs]
   have e:cq (s.found++[f])=cq s.found++qz f:=by simp[cq]
   rw[e]
   refine sk.row al ?_
   intro b hb hc
   simp only[List.mem_singleton]at hc
   obtain⟨cur,e⟩:=aH al hb
   rw[hc,SZ]at e
   cases e
 · intro u hu
   refine(h.b7 u hu).kept qB ?_
   intro b hb hc
   obtain⟨cur,U,e,hU⟩:=(h.b7 u hu).types hb
   rcases List.mem_cons.1 hc with rfl | hc
   · rw[h.cU]at e
     simp only[Option.some.injEq,Obj.cells.injEq]at e
     rcases hU with rfl | rfl | rfl<;>cases e.2.1
   · rw[Option.mem_toList]at hc
     obtain⟨jX,e'⟩:=aH h.Bh hc
     rw[e]at e'
     simp only[Option.some.injEq,Obj.cells.injEq]at e'
     rcases hU with rfl | rfl | rfl<;>cases e'.2.1
 · intro b hb
   refine AN (t:=t) (t':=t') ?_ ht hb
   intro x hx
   rcases CJ x hx with e | e
   · exact .inl e
   · exact .inr (Nat.le_trans (Nat.le_trans kV hW.size) e)
 · refine Kb.trans' (hk.mono fun i hi _=>xy hi) qB ?_
   intro i hi _
   unfold dA
   rcases List.mem_cons.1 hi with rfl | hi
   · simp
   · simp only[List.mem_cons,List.mem_append]
     exact .inr (.inl hi)
 · intro b hb
   obtain⟨cur,e0⟩:=aH h0.Bh hb
   obtain⟨ajo,e1⟩:=aH h.Bh hb
   have Zw:b≠sb:=by
    rintro rfl
    rw[h0.cU]at e0
    cases e0
   obtain⟨⟨aaM,e2⟩,Oq⟩:=uI b hb
   refine⟨⟨aaM,(Below.heap_setCell _ _ _ _ Zw).trans e2⟩,fun j hj=> ?_⟩
   have c1:w1.cell? ⟨b,j,none⟩=w.cell? ⟨b,j,none⟩:=World.cell?_of_block (qD h0 hk hb)
   have c2:W.cell? ⟨b,j,none⟩=w1.cell? ⟨b,j,none⟩:=hW.cell (lt_of_heap e1)
   rw[←c1,←c2,←Oq j hj]
   exact World.cell?_of_block (Below.heap_setCell _ _ _ _ Zw)
theorem iy.trans{w w1 w2:World}{sb mb:Nat}{rv:Value}{fd vP:Option Addr}{fc vK:Nat}{T T1:List HT}{s s1 s2:En.dB En.cl}(h0:mM w sb mb rv fd fc T s)(hm:mM w1 sb mb rv vP vK T1 s1)(mH:T1.map HT.key=T.map HT.key)(Ot:∀b,b∈dA sb vP vK s1.found.length T1→b∈dA sb fd fc s.found.length T∨w.heap.size≤b)
 (hk:Kb (dA sb fd fc s.found.length T) w w1)(hc:AY w w1 fd fc s.found.length)(hlen:s.found.length≤s1.found.length)(h2:iy w1 w2 sb mb rv vP vK T1 s1 s2):iy w w2 sb mb rv fd fc T s s2 where
 on:=by
  obtain⟨Td,SA,T2,a,b,c⟩:=h2.on
  refine⟨Td,SA,T2,a,b.trans mH,fun x hx=> ?_⟩
  rcases c x hx with e | e
  · exact Ot x e
  · exact .inr (Nat.le_trans hk.size e)
 kept:=hk.trans' h2.kept fun i hi aE=>by
  rcases Ot i hi with e | e
  · exact e
  · omega
 cells:=by
  intro b hb
  obtain⟨⟨cur,e⟩,Oq⟩:=hc b hb
  by_cases al:Value.ownBlock (.slice vP s1.found.length vK)=some b
  · obtain⟨t2,c2⟩:=h2.cells b al
    exact⟨t2,fun j hj=>(c2 j (by omega)).trans (Oq j hj)⟩
  · have hnf:¬b∈dA sb vP vK s1.found.length T1:=by
     intro fU
     unfold dA at fU
     rcases List.mem_cons.1 fU with rfl | fU
     · rw[hm.cU]at e;cases e
     · rcases List.mem_append.1 fU with fU | fU
       · rw[Option.mem_toList]at fU
         exact al fU
       · obtain⟨u,hu,hbu⟩:=List.mem_flatMap.1 fU
         obtain⟨jX,U,e',hU⟩:=(hm.b7 u hu).types hbu
         rw[e]at e'
         simp only[Option.some.injEq,Obj.cells.injEq]at e'
         rcases hU with rfl | rfl | rfl<;>cases e'.2.1
    have Tm:=h2.kept.block b (lt_of_heap e) hnf
    exact⟨⟨cur,Tm.trans e⟩,fun j hj=>(World.cell?_of_block Tm).trans (Oq j hj)⟩
theorem iy.refl{w:World}{sb mb:Nat}{rv:Value}{fd:Option Addr}{fc:Nat}{T:List HT}{s:En.dB En.cl}(h:mM w sb mb rv fd fc T s):iy w w sb mb rv fd fc T s s where
 on:=⟨fd,fc,T,h,rfl,fun _ hb=>.inl hb⟩
 kept:=Kb.refl _ _
 cells:=fun b hb=>⟨aH h.Bh hb,fun _ _=>rfl⟩
end
end Go.Proofs.YtdmicblafmhflaaGreatDoor
