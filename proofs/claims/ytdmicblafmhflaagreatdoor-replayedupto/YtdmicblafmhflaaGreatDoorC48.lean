/- Import of an export. -/
import Derived.Test.YtdmicblafmhflaaGreatDoorC47
import Derived.Test.YtdmicblafmhflaaGreatDoorC39
set_option linter.unusedSimpArgs false
set_option linter.unusedVariables false
set_option maxHeartbeats 4000000
set_option maxRecDepth 100000
namespace Go.Proofs.YtdmicblafmhflaaGreatDoor
section
open Go.RowKit Go.Maps
theorem s9{w:World}{B eg:Nat}{kl:List Ax.ay}{gv:Nat→Bool}{n:Nat}{hd:List UInt8}{lg:List Value}{lv:Value}(hE:nQ w B eg kl gv n)(hg:ji gv)(hH:eG w eg hd lg lv):∀W,Below w.heap.size w W→Calls Tryz.prog 23 #[.pointer (some ⟨eg,0,none⟩)] W fun e w'=>e=.returned (.string ⟨(Ex.body kl gv++hd).toArray⟩)∧Below W.heap.size W w':=by
 obtain⟨DK,h1,h2,h3⟩:=FF hE hg
 obtain⟨pl,rv,gm,hm,e⟩:=hH.at_
 obtain⟨pl',rv',gm',hm',qk,e'⟩:=h3
 rw[e]at e'
 simp only[Option.some.injEq,Obj.cells.injEq,and_true]at e'
 obtain⟨rfl,_⟩:=oQ hH.Jw h1 e'
 exact h2
theorem Pm{wc:World}{kl:List Ax.ay}{gv:Nat→Bool}{rd:Option Addr}{rc gm hm:Nat}{l:List MR}{G:List GT}{T:List HT}{s:En.dB En.cl}{hd:List UInt8}(dN:aI wc rd rc l)(he:(l.map MR.aw).map Ax.kX=Ax.gR kl)(bS:hd.length=32)
 (h1:lB wc gm G)(h2:fV G gv)(h3:pG wc hm T s)(h4:En.Inv (En.sR (En.aj kl)) (En.gF gv) s s.found.length)(h5:∀p,p∈T.map ig↔p∈jL){B:Nat}(hB:B≤wc.heap.size):
 nQ (wc.alloc (.cells (bE (Ax.au kl) (.slice rd l.length rc) gm hm hd (.slice none 0 0)) 109)) B wc.heap.size kl gv 0∧eG (wc.alloc (.cells (bE (Ax.au kl) (.slice rd l.length rc) gm hm hd (.slice none 0 0)) 109)) wc.heap.size hd [] (.slice none 0 0):=by
 have hb:Below wc.heap.size wc (wc.alloc (.cells (bE (Ax.au kl) (.slice rd l.length rc) gm hm hd (.slice none 0 0)) 109)):=(Below.refl _ _).alloc (Nat.le_refl _) _
 exact⟨⟨⟨_,rd,rc,l,gm,G,hm,T,s,hd,.slice none 0 0,0,[],heap_alloc_new _ _,dN.below hb,he,h1.below hb,h2,h3.below hb,h4,h5,bS,World.ownsRow_nil _ _ _ _,Nat.zero_le _,rfl⟩,hB⟩,⟨_,_,_,_,heap_alloc_new _ _⟩,bS,World.ownsRow_nil _ _ _ _⟩
theorem G2(w:World)(kl:List Ax.ay)(gv:Nat→Bool)(hg:ji gv)(hd:List UInt8)(bS:hd.length=32)(hU:eW w):
 Calls Tryz.prog 24 #[.string ⟨(Ex.body kl gv++hd).toArray⟩] w fun e w'=>∃eg,e=.returned (.tuple #[.pointer (some ⟨eg,0,none⟩),.int .i64 0])∧nQ w' w.heap.size eg kl gv 0∧eG w' eg hd [] (.slice none 0 0)∧Below w.heap.size w w':=by
 have sH:Hid (Calls Tryz.prog 45 #[.string ⟨(Ex.body kl gv++hd).toArray⟩] w fun e w1=>∃rd rc l gm hm G T s,e=.returned (.tuple #[.agg (aO (Ax.au kl) (.slice rd (List.length l) rc) gm hm hd),.bool true])∧(∀Z:Array Value,Z.size=36→(storeCells ⟨w1.heap.size,0,none⟩ (aO (Ax.au kl) (.slice rd l.length rc) gm hm hd).toList).run Tryz.prog (w1.alloc (.cells Z 107))=.ok () ((w1.alloc (.cells Z 107)).setCells w1.heap.size 0 (aO (Ax.au kl) (.slice rd l.length rc) gm hm hd).toList))∧Hid (aI w1 rd rc l∧(l.map MR.aw).map Ax.kX=Ax.gR kl∧lB w1 gm G∧fV G gv∧pG w1 hm T s∧En.Inv (En.sR (En.aj kl)) (En.gF gv) s s.found.length∧(∀p,p∈T.map ig↔p∈jL)∧Below w.heap.size w w1)):=by
  refine(G4 w kl gv hg hd bS hU).mono ?_
  rintro e w1 ⟨rd,rc,l,gm,hm,G,T,s,rfl,q⟩
  exact⟨rd,rc,l,gm,hm,G,T,s,rfl,fun Z hZ=>cN (heap_alloc_new _ _) hZ (aL _ _ _ _ bS) (gJ _ _ _ _ _ _ _),q⟩
 generalize (⟨(Ex.body kl gv++hd).toArray⟩:ByteArray)=S at*
 clear hU
 go_enter Tryz.func24,Tryz.ntmps24
 go_upto_region 2 with(go_at_call 45;refine sH.out.mono ?_;rintro e w1 ⟨rd,rc,l,gm,hm,G,T,s,rfl,ev,H1⟩;have cE:=aL (Ax.au kl) (.slice rd l.length rc) gm hm bS)
 obtain⟨w2,MK⟩:∃w2,w2=(w1.alloc (.cells (pZ (.string ⟨#[]⟩) (.slice none 0 0) (.map none) (.map none)) 107)).setCells w1.heap.size 0 (aO (Ax.au kl) (.slice rd l.length rc) gm hm hd).toList:=⟨_,rfl⟩
 have PH:(w1.alloc (.cells (pZ (.string ⟨#[]⟩) (.slice none 0 0) (.map none) (.map none)) 107)).heap[w1.heap.size]?=some (.cells (pZ (.string ⟨#[]⟩) (.slice none 0 0) (.map none) (.map none)) 107 (0,0)):=heap_alloc_new _ _
 have hx:w2.heap[w1.heap.size]?=some (.cells (aO (Ax.au kl) (.slice rd l.length rc) gm hm hd) 107 (0,0)):=by rw[MK];exact fI PH rfl cE
 have NO:Below w1.heap.size w1 w2:=by
  obtain⟨_,hk⟩:=bX w1.heap.size (aO (Ax.au kl) (.slice rd l.length rc) gm hm hd).toList 0 _ _ PH (by rw[Array.length_toList,cE];exact Nat.le_refl 36)
  rw[MK]
  exact hk.aK ((Below.refl _ _).alloc (Nat.le_refl _) _) (by simp) (by simp)
 unfold pZ at MK
 rw[←MK]
 clear MK PH ev
 obtain⟨q1,q2,q3,q4,q5,q6,q7,q8⟩:=H1.out
 have cM:Below w.heap.size w w2:=q8.trans (NO.mono q8.size)
 have HM:Hid (nQ (w2.alloc (.cells (bE (Ax.au kl) (.slice rd l.length rc) gm hm hd (.slice none 0 0)) 109)) w.heap.size w2.heap.size kl gv 0∧eG (w2.alloc (.cells (bE (Ax.au kl) (.slice rd l.length rc) gm hm hd (.slice none 0 0)) 109)) w2.heap.size hd [] (.slice none 0 0)):=Pm (q1.below NO) q2 bS (q3.below NO) q4 (q5.below NO) q6 q7 cM.size
 have CU:Hid (Below w.heap.size w w2):=cM
 clear q1 q2 q3 q4 q5 q6 q7 q8 H1 NO cM sH
 go_wp2_with (refine wpList_load_row rfl _ _ rfl w1.heap.size rfl _ _ _ _ hx Tryz.underlying107 rfl (by rw[cE];kernel_rfl) ?_)
 rw[Hs _ _ cE rfl]
 have e9:((aO (Ax.au kl) (.slice rd l.length rc) gm hm hd).toList++[Value.slice none 0 0]).toArray=bE (Ax.au kl) (.slice rd l.length rc) gm hm hd (.slice none 0 0):=uq _ _ _ _ _
 go_ret2
 refine⟨w2.heap.size,rfl, ?_, ?_,CU.out.alloc CU.out.size _⟩
 · exact HM.out.1
 · exact HM.out.2
end
/- record.First: the record that a log begins with. -/
section
open Go.RowKit Go.Maps
namespace Rd
def jD(K:Nat→Int)(hd:List UInt8)(l:List UInt8):ByteArray×Nat×Bool:=
 if (text l false).2.2=true then (⟨#[]⟩,0,false)
 else if Ax.pre ⟨(text l false).2.1.toArray⟩ ⟨(dO K hd ⟨(text l false).1.toArray⟩).toArray⟩=true then (⟨(text l false).1.toArray⟩,l.length-(text l false).2.1.length+32,true)
 else (⟨#[]⟩,0,false)
theorem M3(l:List UInt8)(f:Bool):(text l f).1.length≤l.length:=by
 unfold text
 simp only
 split
 · simp
 · have:=nu l f 9223372036854775807
   rw[List.length_take]
   omega
end Rd
theorem yl(w:World)(rb:Nat)(l:List UInt8)(f:Bool)(h:bC w rb l f):
 Calls Tryz.prog 144 #[.pointer (some ⟨rb,0,none⟩)] w fun e w'=>e=.returned (.string ⟨l.toArray⟩)∧w'=w:=by
 obtain⟨c0,c1,c2,c3,c4⟩:=h.cells
 clear h
 go_enter Tryz.func144,Tryz.ntmps144
 go_wp2_with fail
 go_ret
 exact⟨rfl,rfl⟩
theorem Aj(K:Nat→Int)(w:World)(l:List UInt8)(hd:List UInt8)(hK:Dg.uw w K)(bS:hd.length=32)(hl:l.length≤1000000000):
 Calls Tryz.prog 83 #[.string ⟨l.toArray⟩,.agg (Rc.bA hd).toArray] w fun e w'=>e=.returned (.tuple #[.string (Rd.jD K hd l).1,.int .i64 ((Rd.jD K hd l).2.1:Nat),.bool (Rd.jD K hd l).2.2])∧Below w.heap.size w w':=by
 have xB:=Rd.M3 l false
 have hrl:=Rd.yy l false
 have hf:Rd.jD K hd l=if (Rd.text l false).2.2=true then (⟨#[]⟩,0,false)
 else if Ax.pre ⟨(Rd.text l false).2.1.toArray⟩ ⟨(dO K hd ⟨(Rd.text l false).1.toArray⟩).toArray⟩=true then (⟨(Rd.text l false).1.toArray⟩,l.length-(Rd.text l false).2.1.length+32,true)
 else (⟨#[]⟩,0,false):=rfl
 have j0:=heap_alloc_new w (.cells (Rc.bA hd).toArray 105)
 have jb:Below w.heap.size w (w.alloc (.cells (Rc.bA hd).toArray 105)):=(Below.refl _ _).alloc (Nat.le_refl _) _
 obtain⟨w0,cZ⟩:∃w0,w0=w.alloc (.cells (Rc.bA hd).toArray 105):=⟨_,rfl⟩
 rw[←cZ]at j0 jb
 have HF:Hid (Rd.jD K hd l=_):=hf
 have Cy:Hid (Calls Tryz.prog 80 #[.string ⟨l.toArray⟩] w0 fun e w1=>e=.returned (.pointer (some ⟨w0.heap.size,0,none⟩))∧Hid (bC w1 w0.heap.size l false∧Below w0.heap.size w0 w1)):=(iZ w0 l).mono (fun e w' ⟨a,b⟩=>⟨a,b⟩)
 have qf:Hid (∀w1,bC w1 w0.heap.size l false→Below w0.heap.size w0 w1→Calls Tryz.prog 81 #[.pointer (some ⟨w0.heap.size,0,none⟩)] w1 fun e w2=>e=.returned (.string ⟨(Rd.text l false).1.toArray⟩)∧Hid (bC w2 w0.heap.size (Rd.text l false).2.1 (Rd.text l false).2.2∧Below w0.heap.size w0 w2)):=by
  intro w1 h1 a8
  refine(iS w1 w0.heap.size l false h1 hl).mono ?_
  rintro e w2 ⟨rfl,q1,q2⟩
  exact⟨rfl,q1,q2.aK a8 a8.size (by simp)⟩
 generalize (Rd.text l false).1=t at*
 generalize (Rd.text l false).2.1=m at*
 generalize (Rd.text l false).2.2=g at*
 generalize Rd.jD K hd l=R at*
 have HHD:Hid (∀W,Below w0.heap.size w0 W→Calls Tryz.prog 70 #[.agg (Rc.bA hd).toArray,.string ⟨t.toArray⟩] W fun e w'=>e=.returned (.agg (Rc.bA (dO K hd ⟨t.toArray⟩)).toArray)∧Hid (Below W.heap.size W w')):=by
  intro W hW
  exact(wF K W hd ⟨t.toArray⟩ (hK.below (jb.trans (hW.mono jb.size))) bS (by show t.length≤_;omega)).mono (fun e w' ⟨a,b⟩=>⟨a,b⟩)
 have RL:(dO K hd ⟨t.toArray⟩).length=32:=Dg.mA _ _
 generalize dO K hd ⟨t.toArray⟩=h2 at*
 have hsl:(⟨l.toArray⟩:ByteArray).size=l.length:=rfl
 have ze:(⟨m.toArray⟩:ByteArray).size=m.length:=rfl
 have tU:(⟨h2.toArray⟩:ByteArray).size=32:=RL
 have yT:Hid (∀W f,bC W w0.heap.size m f→Calls Tryz.prog 142 #[.pointer (some ⟨w0.heap.size,0,none⟩)] W fun e w'=>e=.returned (.bool f)∧w'=W):=fun W f h=>fH W _ _ _ h
 have HRS:Hid (∀W f,bC W w0.heap.size m f→Calls Tryz.prog 144 #[.pointer (some ⟨w0.heap.size,0,none⟩)] W fun e w'=>e=.returned (.string ⟨m.toArray⟩)∧w'=W):=fun W f h=>yl W _ _ _ h
 have HHP:Hid (∀W,Calls Tryz.prog 143 #[.string ⟨m.toArray⟩,.string ⟨h2.toArray⟩] W fun e w'=>e=.returned (.bool (Ax.pre ⟨m.toArray⟩ ⟨h2.toArray⟩))∧w'=W):=fun W=>ff _ _ W (by rw[ze];unfold maxLen;omega) (by rw[tU];unfold maxLen;omega)
 clear hf hK
 generalize (⟨l.toArray⟩:ByteArray)=L at*
 generalize (⟨m.toArray⟩:ByteArray)=M at*
 go_enter Tryz.func83,Tryz.ntmps83
 go_upto_region 1 with fail
 rw[←cZ]
 clear cZ
 go_upto_region 3 with(first | (go_at_call 80;refine Cy.out.mono ?_;rintro e w1 ⟨rfl,H1⟩) | (go_at_call 81;refine(qf.out w1 H1.out.1 H1.out.2).mono ?_;rintro e w2 ⟨rfl,H2⟩))
 have CU:Hid (Below w.heap.size w w2):=jb.trans (H2.out.2.mono jb.size)
 rcases Bool.eq_false_or_eq_true g with rfl | rfl
 · have HE:Hid (R=(⟨#[]⟩,0,false)):=by have:=HF.out;rwa [if_pos rfl]at this
   clear HF
   go_wp2_with (go_at_call 142;refine(yT.out w2 true H2.out.1).mono ?_;rintro e w3 ⟨rfl,rfl⟩)
   go_ret3
   rw[HE.out]
   exact⟨rfl,CU.out⟩
 · have j2:w2.heap[w.heap.size]?=some (.cells (Rc.bA hd).toArray 105 (0,0)):=by
    rw[H2.out.2.block _ (lt_of_heap j0)]
    exact j0
   have Fg:(Rc.bA hd).toArray.size=32:=by simp[Rc.bB,bS]
   go_upto_region 5 with(go_at_call 142;refine(yT.out w2 false H2.out.1).mono ?_;rintro e w3 ⟨rfl,rfl⟩)
   have HAZ:Hid (∀W,Below w3.heap.size w3 W→(W.alloc (.cells (Dg.bw 32 .u8 (fun _=>0)) 105)).heap[W.heap.size]?=some (.cells (Dg.bw 32 .u8 (fun _=>0)) 105 (0,0))):=fun W _=>heap_alloc_new W _
   go_upto_region 6 with(first | (refine wpList_load_row rfl _ _ rfl w.heap.size rfl _ _ _ _ j2 Tryz.underlying105 rfl (by rw[Fg];kernel_rfl) ?_) | (go_at_call 70;refine(HHD.out _ H2.out.2).mono ?_;rintro e w4 ⟨rfl,H4⟩) | (rw[←Dg.Cf];refine wpList_store_row rfl 105 (.tmp 9) (.tmp 18) rfl w4.heap.size rfl (Rc.bA h2).toArray rfl _ _ (heap_alloc_new w4 _) (by rw[Dg.cG];simp[Rc.bB,RL]) (by simp only[List.size_toArray,Rc.bB,RL];kernel_rfl) (by simpa using Rc.o4 h2) ?_))
   obtain⟨w5,hw5⟩:∃w5,w5=(w4.alloc (Obj.cells (Dg.bw 32 IntKind.u8 fun x=>0) 105)).setRow w4.heap.size (Rc.bA h2).toArray:=⟨_,rfl⟩
   have Wj:w5.heap[w4.heap.size]?=some (.cells (Rc.bA h2).toArray 105 (0,0)):=by rw[hw5];exact bt _ _ _ (heap_alloc_new w4 _)
   have zA:Below w4.heap.size w4 w5:=by
    rw[hw5]
    exact(Kb.setRow _ w4.heap.size (Rc.bA h2).toArray).aK ((Below.refl _ _).alloc (Nat.le_refl _) _) (by simp) (by simp)
   rw[←hw5]
   clear hw5 HAZ
   have UD:Below w3.heap.size w3 w5:=H4.out.trans (zA.mono H4.out.size)
   have UH:Hid (bC w5 w0.heap.size m false):=by
    unfold bC
    rw[UD.block _ (lt_of_heap H2.out.1)]
    exact H2.out.1
   have PL:Hid (Below w.heap.size w w5):=CU.out.trans (UD.mono CU.out.size)
   have E9:∀W:World,W.heap=w5.heap→(convert 63 9 (.slice (some ⟨w4.heap.size,0,none⟩) 32 32)).run Tryz.prog W=.ok (.string ⟨h2.toArray⟩) W:=by
    intro W hW
    rw[←RL]
    refine run_convert_bytes_back W 63 9 5 ⟨w4.heap.size,0,none⟩ _ h2 Tryz.underlying63 Tryz.underlying5 Tryz.underlying9 ?_
    intro j hj
    have dI:(⟨w4.heap.size,0,none⟩:Addr).add j=⟨w4.heap.size,j,none⟩:=by unfold Addr.add;split<;>simp_all
    rw[←hW]at Wj
    rw[dI,cell_of_row _ _ _ _ _ _ Wj,List.getElem?_toArray,Rc.bA,List.getElem?_map,List.getElem?_eq_getElem hj]
    rfl
   have hdn:∀n,(w5.drewN n).heap=w5.heap:=fun n=>rfl
   have hv1:∀n,(convert 63 9 (.slice (some ⟨w4.heap.size,0,none⟩) 32 32)).run Tryz.prog (w5.drewN n)=.ok (.string ⟨h2.toArray⟩) (w5.drewN n):=fun n=>E9 _ (hdn n)
   have HR6:Hid (∀n,bC (w5.drewN n) w0.heap.size m false):=fun n=>UH.out
   have Wv:=lt_of_heap Wj
   clear E9 Wj zA UD H4 j2
   go_quiet (first | (go_at_call 144;exact Calls.quiet_of_same (HRS.out _ false (HR6.out _))) | (go_at_call 143;exact Calls.quiet_of_same (HHP.out _)))
   have HBN:Hid (Below w.heap.size w (w5.drewN nq)):=below_drewN PL.out nq
   have HR7:Hid (bC (w5.drewN nq) w0.heap.size m false):=HR6.out nq
   generalize w5.drewN nq=w6 at*
   clear hv1 HR6 hdn
   rcases hp:Ax.pre M ⟨h2.toArray⟩with _ | _
   · have HE:Hid (R=(⟨#[]⟩,0,false)):=by
      have:=HF.out
      rwa [if_neg (by simp),if_neg (by rw[hp];simp)]at this
     clear HF
     go_wp2_with fail
     go_ret3
     rw[HE.out]
     exact⟨rfl,HBN.out⟩
   · have HE:Hid (R=(⟨t.toArray⟩,l.length-m.length+32,true)):=by
      have:=HF.out
      rwa [if_neg (by simp),if_pos hp]at this
     clear HF
     go_wp2_with (go_at_call 144;refine(HRS.out _ false HR7.out).mono ?_;rintro e w7 ⟨rfl,rfl⟩)
     go_ret3
     rw[HE.out]
     exact⟨by go_num,HBN.out⟩
end
/- record.places; what a log says, as pure functions. -/
section
open Go.RowKit Go.Maps
namespace Rd
theorem go_app:∀(k i:Nat) (l:List UInt8) (acc:Nat) (r:List UInt8),(go k i l acc).2≠0→go k i (l++r) acc=go k i l acc
 | 0,_,_,_,_,h=>by simp[go]at h
 | _+1,_,[],_,_,h=>by simp[go]at h
 | k+1,i,b::l,acc,r,h=>by
  simp only[go,List.cons_append]at h ⊢
  split
  · rfl
  · rename_i h1
    rw[if_neg h1]at h
    split
    · rfl
    · rename_i h2
      rw[if_neg h2]at h
      exact go_app k (i+1) l _ r h
theorem O0{l:List UInt8}(h:(text l false).2.2=false)(r:List UInt8):text (l++r) false=((text l false).1,(text l false).2.1++r,false):=by
 have hle:=Dr l
 unfold text number at h ⊢
 by_cases h0:(first l).2=0
 · simp[h0]at h
 · have e:first (l++r)=first l:=go_app 4 0 l 0 r h0
   have aE:=LX l
   have hm:¬(9223372036854775807:Int)<((first l).1:Int):=by omega
   simp only[e,h0,hm,or_self,if_false,Bool.false_eq_true]at h ⊢
   rw[List.drop_append_of_le_length hle]
   split at h
   · simp at h
   · rename_i h1
     rw[if_neg h1,if_neg (by rw[List.length_append];omega),List.take_append_of_le_length (by omega),List.drop_append_of_le_length (by omega)]
theorem si(x:ByteArray):(⟨x.data.toList.toArray⟩:ByteArray)=x:=by cases x;simp
theorem Fu(K:Nat→Int)(hd:List UInt8){ct:ByteArray}(h:ct.size<268435456)(t:List UInt8):jD K hd (Rc.aC ct++dO K hd ct++t)=(ct,(Rc.aC ct++dO K hd ct).length,true):=by
 have hh:(dO K hd ct).length=32:=Dg.mA _ _
 have e:=j7 h (dO K hd ct++t)
 unfold jD
 rw[List.append_assoc,e]
 simp only[si]
 rw[if_neg (by simp),if_pos]
 · simp only[List.length_append,hh]
   congr 2
   omega
 · unfold Ax.pre
   simp
theorem Eg(K:Nat→Int)(hd:List UInt8){ct:ByteArray}(h:ct.size<268435456){l r:List UInt8}(hr:r≠[])(e:l++r=Rc.aC ct++dO K hd ct):jD K hd l=(⟨#[]⟩,0,false):=by
 unfold jD
 cases hf:(text l false).2.2 with
 | true=>rw[if_pos rfl]
 | false=>
  rw[if_neg (by simp)]
  have e1:=O0 hf r
  rw[e,j7 h]at e1
  simp only[Prod.mk.injEq,and_true]at e1
  rw[if_neg]
  intro hp
  have h1:=Ax.NM _ _ hp
  have e2:(⟨(text l false).1.toArray⟩:ByteArray)=ct:=by rw[←e1.1,si]
  rw[e2]at h1
  have h2:(dO K hd ct).length≤(text l false).2.1.length:=h1
  have h3:=congrArg List.length e1.2
  rw[List.length_append]at h3
  have h4:=List.length_pos_iff.2 hr
  omega
end Rd
namespace Pd
def qt:List Pr→ByteArray→Nat
 | [],_=>0
 | p::l,x=>if p.1=x then p.2 else qt l x
theorem CY:∀{l:List Pr} {p:Pr},p∈l→(∀q,q∈l→q.1=p.1→q.2=p.2)→qt l p.1=p.2
 | a::l,p,h,ho=>by
  unfold qt
  split
  · rename_i e
    exact ho a (by simp) e
  · rename_i e
    rcases List.mem_cons.1 h with rfl | h
    · exact absurd rfl e
    · exact CY h (fun q hq=>ho q (by simp[hq]))
theorem KY{l:List Pr}{x:ByteArray}{k:Nat}(hk:k<l.length):qt (l.drop k) x=if (l[k]).1=x then (l[k]).2 else qt (l.drop (k+1)) x:=by
 rw[List.drop_eq_getElem_cons hk]
 rfl
end Pd
theorem BL(w:World)(B:Nat)(qd:Option Addr)(qc:Nat)(Q:List Pd.Pr)(x:ByteArray)(hq:w.ownsRow B 112 2 (.slice qd Q.length qc) Q.length (aB Q))(hl:Q.length≤1000):
 Calls Tryz.prog 206 #[.slice qd Q.length qc,.string x] w fun e w'=>e=.returned (.int .i64 (Pd.qt Q x:Nat))∧Below w.heap.size w w':=by
 go_enter Tryz.func206,Tryz.ntmps206
 go_wp2_with fail
 go_loopw [9] (fun i wr=>∃(k:Nat),k≤Q.length∧i=.int .i64 k∧Pd.qt Q x=Pd.qt (Q.drop k) x∧Below w.heap.size w wr) (fun i _=>Q.length-(intOf i).toNat)
 case atStart=>exact⟨0,Nat.zero_le _,rfl,rfl,Below.refl _ _⟩
 case round=>
  obtain⟨k,hk,rfl,hp,aU⟩:=hrel
  have HB:Hid (Below w.heap.size w wr):=aU
  by_cases aE:k<Q.length
  · have bQ:=ae hq aU
    obtain⟨g,rfl,hg,hc,bH⟩:=aD bQ (by omega)
    have fG:=bH _ _ (aT Q k aE).1
    have fC:=bH _ _ (aT Q k aE).2
    rw[Pd.KY aE]at hp
    generalize Q[k]=y at fG fC hp
    have HP:Hid (Pd.qt Q x=if y.1=x then y.2 else Pd.qt (Q.drop (k+1)) x):=hp
    have HBA:Hid (∀o,Below w.heap.size w (wr.alloc o)):=fun o=>HB.out.alloc HB.out.size o
    clear bH bQ aU hq hp
    by_cases he:y.1=x
    · subst he
      have HE:Hid (Pd.qt Q y.1=y.2):=by have:=HP.out;rwa [if_pos rfl]at this
      clear HP
      go_wp2_with fail
      go_ret
      rw[HE.out]
      exact⟨rfl,HBA.out _⟩
    · have HE:Hid (Pd.qt Q x=Pd.qt (Q.drop (k+1)) x):=by have:=HP.out;rwa [if_neg he]at this
      clear HP
      have vA:(y.1.toList==x.toList)=false:=by rw[eC];simp[he]
      go_wp2_with fail
      go_roundw
      case rel=>exact⟨k+1,by omega,by go_num,HE.out,HBA.out _⟩
      case measure=>simp[intOf];omega
  · have va:k=Q.length:=by omega
    have HE:Hid (Pd.qt Q x=0):=by rw[hp,va,List.drop_length];rfl
    clear aU va hp
    go_wp2_with fail
    go_ret
    rw[HE.out]
    exact⟨rfl,HB.out⟩
end
/- record.readFacts: facts of a content. -/
section
open Go.RowKit Go.Maps
structure zT(w wr:World)(rb lb n:Nat)(F:List FI)(l:List UInt8):Prop where
 cU:wr.heap[lb]?=some (.cells (dC F++jF (n-F.length)).toArray 48 (0,0))
 each:∀f,f∈F→wr.ownsRow w.heap.size 9 1 f.av f.args.length (strCells f.args)
 rd:bC wr rb l false
 kb:Kb [rb] w wr
 ge:w.heap.size≤lb
 le:F.length≤n
theorem zT.read{w wr w':World}{rb lb n:Nat}{F:List FI}{l l':List UInt8}(h:zT w wr rb lb n F l)(hk:Kb [rb] wr w')(hr:bC w' rb l' false):zT w w' rb lb n F l':=by
 have cA:lb≠rb:=fg h.cU h.rd (by decide)
 refine⟨hk.heap h.cU (by simpa using cA),fun f hf=>hk.dQ (h.each f hf) (fun b cur fz hb e=> ?_),hr,h.kb.trans hk,h.ge,h.le⟩
 simp at hb
 subst hb
 have h9:=h.rd
 unfold bC at h9
 rw[h9]at e
 simp at e
theorem zT.below{w wr w':World}{rb lb n:Nat}{F:List FI}{l:List UInt8}(h:zT w wr rb lb n F l)(hb:Below wr.heap.size wr w'):zT w w' rb lb n F l:=by
 refine h.read ((Kb.refl _ _).below hb) ?_
 unfold bC
 rw[hb.block _ (lt_of_heap h.rd)]
 exact h.rd
theorem zT.cells{w wr:World}{rb lb n:Nat}{F:List FI}{l:List UInt8}(h:zT w wr rb lb n F l){k:Nat}(hk:F.length=k)(aE:k<n):wr.cell? ⟨lb,k*2,none⟩=some (.string ByteArray.empty)∧wr.cell? ⟨lb,k*2+1,none⟩=some (.slice none 0 0)∧(∀o,wr.frozen? ⟨lb,o,none⟩=false)∧lb<wr.heap.size:=by
 have e:n-F.length=(n-F.length-1)+1:=by omega
 have hb:=h.cU
 rw[e,lr]at hb
 refine⟨?_, ?_,fun o=>by simp[World.frozen?,hb],lt_of_heap hb⟩
 · rw[cell_of_row _ _ _ _ _ _ hb,List.getElem?_toArray,List.getElem?_append_right (by rw[dk];omega),dk]
   simp[hk]
 · rw[cell_of_row _ _ _ _ _ _ hb,List.getElem?_toArray,List.getElem?_append_right (by rw[dk];omega),dk]
   have:k*2+1-F.length*2=1:=by omega
   rw[this]
   rfl
theorem zT.step{w wr:World}{rb lb n:Nat}{F:List FI}{l:List UInt8}(h:zT w wr rb lb n F l){k:Nat}(hF:F.length=k)(aE:k<n)(f:FI)(hf:wr.ownsRow w.heap.size 9 1 f.av f.args.length (strCells f.args)):zT w ((wr.setCell ⟨lb,k*2,none⟩ (.string f.pred)).setCell ⟨lb,k*2+1,none⟩ f.av) rb lb n (F++[f]) l:=by
 subst hF
 have hk:Kb [lb] wr ((wr.setCell ⟨lb,F.length*2,none⟩ (.string f.pred)).setCell ⟨lb,F.length*2+1,none⟩ f.av):=(Kb.setCell wr ⟨lb,F.length*2,none⟩ _).trans (Kb.setCell _ ⟨lb,F.length*2+1,none⟩ _)
 have cA:rb≠lb:=fun e=>fg h.cU h.rd (by decide) e.symm
 have bQ:∀f',wr.ownsRow w.heap.size 9 1 (FI.av f') f'.args.length (strCells f'.args)→((wr.setCell ⟨lb,F.length*2,none⟩ (.string f.pred)).setCell ⟨lb,F.length*2+1,none⟩ f.av).ownsRow w.heap.size 9 1 f'.av f'.args.length (strCells f'.args):=fun f' h'=>hk.dQ h' (fun b cur fz hb e=>by
  simp at hb
  subst hb
  rw[h.cU]at e
  simp at e)
 refine⟨?_, ?_,hk.heap h.rd (by simpa using cA), ?_,h.ge,by rw[List.length_append];exact aE⟩
 · have hb:=h.cU
   rw[show n-F.length=(n-F.length-1)+1 by omega,lr]at hb
   rw[an _ (an wr hb (F.length*2) (.string f.pred)) (F.length*2+1) f.av]
   congr 2
   rw[List.setIfInBounds_toArray,List.setIfInBounds_toArray]
   congr 1
   rw[List.set_append_right _ _ (by rw[dk];omega),dk,Nat.sub_self,List.set_cons_zero,List.set_append_right _ _ (by rw[dk];omega),dk]
   rw[show F.length*2+1-F.length*2=1 by omega,List.set_cons_succ,List.set_cons_zero]
   rw[show n-(F++[f]).length=n-F.length-1 by rw[List.length_append];simp;omega,np]
   simp
 · intro f' PS
   rcases List.mem_append.1 PS with PS | PS
   · exact bQ f' (h.each f' PS)
   · simp only[List.mem_singleton]at PS
     subst PS
     exact bQ _ hf
 · exact h.kb.trans' hk (fun i hi aE=>by
    have:=h.ge
    simp at hi
    omega)
theorem zT.all{w wr:World}{rb lb n:Nat}{F:List FI}{l:List UInt8}(h:zT w wr rb lb n F l)(hn:F.length=n)(hm:n≤999999):bM wr (some ⟨lb,0,none⟩) n F:=by
 refine⟨?_,fun f hf=>aG (h.each f hf) (Nat.zero_le _)⟩
 have hb:=h.cU
 rw[hn,Nat.sub_self]at hb
 refine⟨dk F,.inr ⟨lb,n,_,by rw[hn],Nat.zero_le _,hb,by omega,by unfold maxLen;omega,by simp[jF,dk,hn], ?_⟩⟩
 simp[jF,dk,List.take_of_length_le]
def lC(w:World)(qd:Option Addr)(qc:Nat)(Q:List Pd.Pr):Prop:=w.ownsRow 0 112 2 (.slice qd Q.length qc) Q.length (aB Q)∧Q.length≤1000∧∀p,p∈Q↔p∈jL
theorem lC.pl{w:World}{qd:Option Addr}{qc:Nat}{Q:List Pd.Pr}(h:lC w qd qc Q){i:Nat}(hi:i<36):Pd.qt Q (be i).1=(be i).2.length:=by
 have h1:=kO hi
 exact Pd.CY ((h.2.2 _).2 h1) (fun q hq e=>s7 (p:=(be i).1) (by rw[←e];exact(h.2.2 _).1 hq) h1)
theorem JO:∀i,i<36→(be i).1.size<1000∧(be i).2.length≤3∧∀x,x∈(be i).2→x.size<1000:=by decide+kernel
end
end Go.Proofs.YtdmicblafmhflaaGreatDoor
