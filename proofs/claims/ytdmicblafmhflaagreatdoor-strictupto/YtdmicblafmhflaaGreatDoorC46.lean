/- state.Read of an export: what its last region keeps. -/
import Derived.Test.YtdmicblafmhflaaGreatDoorC44
import Derived.Test.YtdmicblafmhflaaGreatDoorC18
import Derived.Test.YtdmicblafmhflaaGreatDoorC13
import Derived.Test.YtdmicblafmhflaaGreatDoorC37
import Derived.Lib.SliceRun
import Derived.OwnWalk
import Derived.Deep.RegionHeld3
import Derived.Laws.BytesArg
import Derived.Test.YtdmicblafmhflaaGreatDoorC41
import Derived.Test.YtdmicblafmhflaaGreatDoorC01
import Derived.Test.YtdmicblafmhflaaGreatDoorC28
import Derived.Test.YtdmicblafmhflaaGreatDoorC45
set_option linter.unusedSimpArgs false
set_option linter.unusedVariables false
set_option maxHeartbeats 2000000
set_option maxRecDepth 100000
namespace Go.Proofs.YtdmicblafmhflaaGreatDoor
section
open Go.RowKit Go.Maps
structure MX(w1:World)(pb:Nat)(pl:ByteArray)(rv:Value)(hd:List UInt8)(b cb:Option Nat)(W:World):Prop where
 be:Below w1.heap.size w1 W
 Wz:pb<w1.heap.size
 c0:W.cell? ⟨pb,0,none⟩=some (.string pl)
 c1:W.cell? ⟨pb,1,none⟩=some rv
 da:∀x,b=some x→w1.heap.size≤x∧∃Z,W.heap[x]?=some (.cells Z 107 (0,0))∧Z.size=36
 Yp:∀x,cb=some x→x<W.heap.size∧W.rangeAt x 0 (Rc.bB hd)
theorem MX.below{w1 W w':World}{pb:Nat}{pl:ByteArray}{rv:Value}{hd:List UInt8}{b cb:Option Nat}(h:MX w1 pb pl rv hd b cb W)(hb:Below W.heap.size W w'):MX w1 pb pl rv hd b cb w':=by
 have lu:pb<W.heap.size:=Nat.lt_of_lt_of_le h.Wz h.be.size
 refine⟨h.be.trans (hb.mono h.be.size),h.Wz,by rw[hb.cell lu];exact h.c0,by rw[hb.cell lu];exact h.c1,fun x hx=> ?_,fun x hx=> ?_⟩
 · obtain⟨h1,Z,h2,h3⟩:=h.da x hx
   exact⟨h1,Z,by rw[hb.block _ (lt_of_heap h2)];exact h2,h3⟩
 · obtain⟨h1,h2⟩:=h.Yp x hx
   exact⟨Nat.lt_of_lt_of_le h1 hb.size,fun j v hv=>by rw[hb.cell (p:=⟨x,0+j,none⟩) h1];exact h2 j v hv⟩
theorem MX.drew{w1 W:World}{pb:Nat}{pl:ByteArray}{rv:Value}{hd:List UInt8}{b cb:Option Nat}(h:MX w1 pb pl rv hd b cb W):MX w1 pb pl rv hd b cb W.drew:=h.below (Below.refl _ _).drew
theorem MX.alloc{w1 W:World}{pb:Nat}{pl:ByteArray}{rv:Value}{hd:List UInt8}{cb:Option Nat}{Z:Array Value}(h:MX w1 pb pl rv hd none cb W)(hz:Z.size=36):MX w1 pb pl rv hd (some W.heap.size) cb (W.alloc (.cells Z 107)):=by
 have h2:=h.below (w':=W.alloc (.cells Z 107)) ((Below.refl _ _).alloc (Nat.le_refl _) _)
 refine⟨h2.be,h2.Wz,h2.c0,h2.c1,fun x hx=> ?_,h2.Yp⟩
 simp only[Option.some.injEq]at hx
 subst hx
 exact⟨h.be.size,Z,heap_alloc_new _ _,hz⟩
theorem MX.cells{w1 W:World}{pb:Nat}{pl:ByteArray}{rv:Value}{hd:List UInt8}{b cb:Option Nat}(h:MX w1 pb pl rv hd b cb W):W.cell? ⟨pb,0,none⟩=some (.string pl)∧W.cell? ⟨pb,1,none⟩=some rv:=⟨h.c0,h.c1⟩
theorem s7(W:World)(s:ByteArray):Below W.heap.size W (Lib.bytesWorld W 5 s):=by
 refine⟨?_, ?_, ?_, ?_,fun j hj=>Lib.bytesWorld_at_old W _ s j hj⟩
 · rfl
 · rfl
 · rfl
 · rw[Lib.bytesWorld_size];omega
theorem MX.conv{w1 W:World}{pb:Nat}{pl:ByteArray}{rv:Value}{hd:List UInt8}{b:Option Nat}(h:MX w1 pb pl rv hd b none W):MX w1 pb pl rv hd b (some W.heap.size) (Lib.bytesWorld W 5 ⟨hd.toArray⟩):=by
 have h2:=h.below (s7 W ⟨hd.toArray⟩)
 refine⟨h2.be,h2.Wz,h2.c0,h2.c1,h2.da,fun x hx=> ?_⟩
 simp only[Option.some.injEq]at hx
 subst hx
 refine⟨by rw[Lib.bytesWorld_size];omega,fun j v hv=> ?_⟩
 have hj:j<hd.length:=by
  have:=(List.getElem?_eq_some_iff.1 hv).1
  rwa [Rc.bC]at this
 have h3:=Lib.bytesWorld_cell W 5 ⟨hd.toArray⟩ j hj
 rw[Nat.zero_add,h3]
 have e:(Rc.bB hd)[j]?=some (.int .u8 ((hd[j]).toNat:Int)):=by simp[Rc.bB,List.getElem?_eq_getElem hj]
 rw[e]at hv
 rw[←Option.some.inj hv]
 simp[List.getD_eq_getElem?_getD,List.getElem?_eq_getElem hj]
theorem EC{w1 W:World}{pb:Nat}{pl:ByteArray}{rv:Value}{hd:List UInt8}{b cb:Option Nat}{cs:Array Value}(h:MX w1 pb pl rv hd b cb W)(hc:cs.size=36)(h1:∀v,v∈cs.toList→v.oneCell'=true):ve cs b W:=by
 cases b with
 | some x=>
  obtain⟨_,Z,h2,h3⟩:=h.da x rfl
  exact cO h2 h3 hc h1
 | none=>
  intro Z hZ
  exact cO (heap_alloc_new _ _) hZ hc h1
theorem p5.kG{w:World}{hm:Nat}{T:List HT}{s:En.cU En.bE}(h:p5 w hm T s){x:Nat}{Z:Array Value}{t:TypeId}{f:Nat×Nat}(hx:w.heap[x]?=some (.cells Z t f))(h1:t≠117)(h2:t≠119)(h3:t≠3):∀b,b∈cA hm T→¬b∈[x]:=by
 intro b hb e
 simp only[List.mem_cons,List.not_mem_nil,or_false]at e
 subst e
 unfold cA at hb
 rcases List.mem_cons.1 hb with rfl | hb
 · obtain⟨es,ck,e⟩:=h.map.block
   rw[e]at hx
   cases hx
 · obtain⟨u,hu,hb⟩:=List.mem_flatMap.1 hb
   obtain⟨cur,U,e,hU⟩:=(h.bX u hu).types hb
   rw[e]at hx
   simp at hx
   rcases hU with rfl | rfl | rfl
   · exact h1 hx.2.1.symm
   · exact h2 hx.2.1.symm
   · exact h3 hx.2.1.symm
theorem mz{P:Program}{ops:Array Oper}{rest:List Oper}{o:Oper}{a:Act}{w:World}{Q:Exit→Act→World→Prop}(hw:Region.wanted o (yielded ops a.tmps)=true)(ty:TypeId)(x:Operand)(ho:o.op=.load ty x)(g:Nat)(hx:a.eval x=.pointer (some ⟨g,0,none⟩))(t:TypeId)(cs:Array Value)(fr:Nat×Nat)(d:TypeDesc)(hg:w.heap[g]?=some (.cells cs t fr))
 (hu:P.underlying ty=some d)(hd:(match d with | .struct _ | .array _ _=>true | _=>false)=true)(hi:(P.info? ty).map (·.size)=some cs.size)(h:wpList P ops Q rest (a.put o.dst (.agg cs)) w):wpList P ops Q (o::rest) a w:=
 wpList_step fun K hK=>by
  rw[if_pos hw]
  exact wp_load_row ty x ho g hx t cs fr d hg hu hd hi (hK _ _ h)
theorem U9(W:World)(g c:Nat):(Instr.arrayAt 105 (.slice (some ⟨g,0,none⟩) 32 c)).run Tryz.prog W=.ok (.pointer (some ⟨g,0,none⟩)) W:=by
 simp[Instr.arrayAt,run_underlying Tryz.underlying105]
end
/- state.Read of an export, walked. -/
section
open Go.RowKit Go.Maps
theorem Vu(a b:List UInt8):(⟨(a++b).toArray⟩:ByteArray).extract 0 a.length=⟨a.toArray⟩:=by
 apply ByteArray.ext
 simp[ByteArray.data_extract]
theorem UG(a b:List UInt8):(⟨(a++b).toArray⟩:ByteArray).extract a.length (a.length+b.length)=⟨b.toArray⟩:=by
 apply ByteArray.ext
 simp[ByteArray.data_extract]
theorem aB.tk{w w':World}{bad:List TypeId}{rd:Option Addr}{rc:Nat}{l:List MR}(h:aB w rd rc l)(hk:lj bad w w')(h1:¬222∈bad)(h2:¬219∈bad)(h3:¬310∈bad):aB w' rd rc l:=by
 obtain⟨S,k1,k2⟩:=hk
 refine h.kept k1 (fun b cur U hb e=> ?_)
 obtain⟨oJ,t',fz',e2,ht⟩:=k2 b hb (lt_of_heap e)
 rw[e]at e2
 simp at e2
 obtain⟨_,e3,_⟩:=e2
 subst e3
 exact⟨fun h=>h1 (h▸ht),fun h=>h2 (h▸ht),fun h=>h3 (h▸ht)⟩
end
/- record.places; what a log says, as pure functions. -/
section
open Go.RowKit Go.Maps
namespace Rd
theorem go_app:∀(k i:Nat) (l:List UInt8) (acc:Nat) (r:List UInt8),(go k i l acc).2≠0→go k i (l++r) acc=go k i l acc
 | 0,_,_,_,_,h=>by simp[go]at h
 | _+1,_,[],_,_,h=>by simp[go]at h
 | k+1,i,b::l,acc,r,h=>by
  simp only[go,List.cons_append]at h ⊢
  split
  · rfl
  · rename_i h1
    rw[if_neg h1]at h
    split
    · rfl
    · rename_i h2
      rw[if_neg h2]at h
      exact go_app k (i+1) l _ r h
theorem On{l:List UInt8}(h:(text l false).2.2=false)(r:List UInt8):text (l++r) false=((text l false).1,(text l false).2.1++r,false):=by
 have hle:=yt l
 unfold text number at h ⊢
 by_cases h0:(first l).2=0
 · simp[h0]at h
 · have e:first (l++r)=first l:=go_app 4 0 l 0 r h0
   have aC:=Mn l
   have hm:¬(9223372036854775807:Int)<((first l).1:Int):=by omega
   simp only[e,h0,hm,or_self,if_false,Bool.false_eq_true]at h ⊢
   rw[List.drop_append_of_le_length hle]
   split at h
   · simp at h
   · rename_i h1
     rw[if_neg h1,if_neg (by rw[List.length_append];omega),List.take_append_of_le_length (by omega),List.drop_append_of_le_length (by omega)]
end Rd
namespace Pd
end Pd
end
/- record.Facts of a content; Engine.Log. -/
section
open Go.RowKit Go.Maps
theorem Sp{w:World}{eg:Nat}{hd L:List UInt8}{lv:Value}(h:yP w eg hd (Rc.bB L) lv):
 Calls Tryz.prog 29 #[.pointer (some ⟨eg,0,none⟩)] w fun e w'=>e=.returned (.string ⟨L.toArray⟩)∧w'=w:=by
 obtain⟨pl,rv,gm,hm,eb⟩:=h.at_
 obtain⟨_,_,_,_,_,c36⟩:=oW eb h.NY
 have Ml:(convert 63 9 lv).run Tryz.prog w=.ok (.string ⟨L.toArray⟩) w:=by
  obtain⟨h1,⟨e1,e2⟩ | ⟨g,cap,cur,e1,h2,h3,h4,h5,h6,h7⟩⟩:=h.log
  · have:L=[]:=by
     rw[Rc.bC]at e2
     exact List.length_eq_zero_iff.1 e2
    subst this
    rw[e1]
    exact run_convert_bytes_nil w 63 5 Tryz.underlying63 Tryz.underlying5 _ _ 9 Tryz.underlying9
  · rw[e1,Rc.bC]
    refine run_convert_bytes_back w 63 9 5 ⟨g,0,none⟩ _ L Tryz.underlying63 Tryz.underlying5 Tryz.underlying9 ?_
    intro j hj
    rw[Addr.add_lit,cell_of_row _ _ _ _ _ _ h3]
    have h9:(cur.toList.take ((Rc.bB L).length*1))[j]?=some (.int .u8 ((L[j]).toNat:Int)):=by
     rw[h7,Rc.bB,List.getElem?_map,List.getElem?_eq_getElem hj]
     rfl
    rw[List.getElem?_take]at h9
    split at h9
    · simpa using h9
    · cases h9
 obtain⟨ld,ln,lc,e9⟩:∃ld ln lc,lv=.slice ld ln lc:=by
  obtain⟨xd,xc,e⟩:=ah h.log
  exact⟨_,_,_,e⟩
 subst e9
 have hl:=lt_of_heap eb
 clear eb h
 go_enter Tryz.func29,Tryz.ntmps29
 go_wp2_with fail
 go_ret
 exact⟨rfl,rfl⟩
end
/- state.Read, Import, Replay of an export without its first byte. -/
section
open Go.RowKit Go.Maps
def fB:Array Value:=vm (.string ⟨#[]⟩) (.slice none 0 0) (.map none) (.map none)
theorem oG:fB.size=36:=rfl
theorem vR:∀v,v∈fB.toList→v.oneCell'=true:=by
 intro v hv
 simp[fB,vm]at hv
 rcases hv with rfl | rfl | rfl | rfl<;>rfl
end
/- state.Make, with its refusals. -/
section
open Go.RowKit Go.Maps
theorem Nx(w:World)(pl:ByteArray)(rd:Option Addr)(rc:Nat)(l:List MR)(hl:eH w rd rc l)(CS:l.length≤8)(h1:Pd.One (aS (l.map MR.ak)))(cr:∀p,p∈aS (l.map MR.ak)→p.1.size≤1000000)
 (gm:Nat)(G:List GT)(hG:jY w gm G)(FH:∀p,p∈aS (l.map MR.ak)→p.1∈G.map GT.nm)(MN:∀t,t∈G→t.L.length≤1000)(hGs:fh G≤1000000)(hd:List UInt8)(Fz:hd.length=32):
 Calls Tryz.prog 57 #[.agg #[.string pl,.slice rd l.length rc],.map (some gm),.agg (Rc.bB hd).toArray] w fun e w'=>Below w.heap.size w w'∧((e=.returned (.tuple #[.agg fB,.bool false])∧(fh G≤40→∃Q,Pd.lX Q∧(∀p,p∈Q↔p∈aS (l.map MR.ak))∧cg (l.map MR.ak) (cQ Q G)=none))∨(fh G≤40∧∃hm T s Q,e=.returned (.tuple #[.agg (aI pl (.slice rd l.length rc) gm hm hd),.bool true])∧
  Pd.lX Q∧(∀p,p∈Q↔p∈aS (l.map MR.ak))∧cg (l.map MR.ak) (cQ Q G)=some s∧p5 w' hm T s∧T.map iR=Q.reverse∧∀b,b∈cA hm T→w.heap.size≤b)):=by
 by_cases cB:fh G≤40∧∀Q,Pd.lX Q→(∀p,p∈Q↔p∈aS (l.map MR.ak))→(cg (l.map MR.ak) (cQ Q G)).isSome=true
 · refine(I4 w pl rd rc l hl CS h1 cr gm G hG FH cB.1 hd Fz cB.2).mono ?_
   rintro e w' ⟨hm,T,s,Q,rfl,q1,q2,q3,q4,q5,q6,q7⟩
   exact⟨q7,.inr ⟨cB.1,hm,T,s,Q,rfl,q1,q2,q3,q4,q5,q6⟩⟩
 have PK:Hid (∀W,CE w pl (.slice rd l.length rc) (Rc.bB hd) W→Calls Tryz.prog 110 #[.map (some gm)] W fun e w'=>e=.returned (.int .i64 (fh G:Nat))∧Hid (CE w pl (.slice rd l.length rc) (Rc.bB hd) w')∧w'.cell? ⟨w.heap.size,0,none⟩=some (.string pl)∧w'.cell? ⟨w.heap.size,1,none⟩=some (.slice rd l.length rc)):=by
  intro W hW
  refine(Ae W gm G (hG.below hW.be) (by omega)).mono ?_
  rintro e w' ⟨rfl,hb⟩
  exact⟨rfl,hW.below hb,(hW.below hb).cells.1,(hW.below hb).cells.2⟩
 have oN:Hid ((Tryz.prog.info? 107).map (·.size)=some fB.size):=(by kernel_rfl:(Tryz.prog.info? 107).map (·.size)=some 36)
 have mR:Hid (fB.all (·.oneCell')=true):=(Array.all_eq_true_iff_forall_mem.2 (fun v hv=>vR v (by simpa using hv)):fB.all (·.oneCell')=true)
 have km:Hid (∀W,CE w pl (.slice rd l.length rc) (Rc.bB hd) W→W.there (w.heap.size+1+1) 0 fB.size∧(W.setCells (w.heap.size+1+1) 0 fB.toList).heap[w.heap.size+1+1]?=some (.cells fB 107 (0,0))∧Below w.heap.size w (W.setCells (w.heap.size+1+1) 0 fB.toList)):=by
  intro W hW
  obtain⟨cur,h2,h3⟩:=hW.b2
  have h1:W.heap[w.heap.size+1+1]?=some (.cells cur 107 (0,0)):=h2
  obtain⟨_,hk⟩:=bO (w.heap.size+1+1) fB.toList 0 _ W h1 (by rw[h3];exact Nat.le_refl 36)
  refine⟨?_,eO h1 h3 rfl,hk.aK hW.be hW.be.size (by simp;omega)⟩
  intro j hj
  rw[cell_of_row _ _ _ _ _ _ h1]
  refine⟨?_,by simp[World.frozen?,h1]⟩
  rw[Nat.zero_add,Array.getElem?_eq_getElem (by rw[h3];exact hj)]
  rfl
 by_cases C0:fh G≤40
 · have hex:∃Q,Pd.lX Q∧(∀p,p∈Q↔p∈aS (l.map MR.ak))∧cg (l.map MR.ak) (cQ Q G)=none:=by
    have h9:¬ ∀Q,Pd.lX Q→(∀p,p∈Q↔p∈aS (l.map MR.ak))→(cg (l.map MR.ak) (cQ Q G)).isSome=true:=fun h=>cB ⟨C0,h⟩
    obtain⟨Q,hQ⟩:=Classical.not_forall.1 h9
    obtain⟨a1,hQ⟩:=Classical.not_imp.1 hQ
    obtain⟨a2,hQ⟩:=Classical.not_imp.1 hQ
    refine⟨Q,a1,a2, ?_⟩
    cases h8:cg (l.map MR.ak) (cQ Q G)with
    | none=>rfl
    | some s=>rw[h8]at hQ;exact absurd rfl hQ
   have HEX:Hid (∃Q,Pd.lX Q∧(∀p,p∈Q↔p∈aS (l.map MR.ak))∧cg (l.map MR.ak) (cQ Q G)=none):=hex
   have HMO:Hid (∀W,Hid (CE w pl (.slice rd l.length rc) (Rc.bB hd) W)→Calls Tryz.prog 111 #[.agg #[.string pl,.slice rd l.length rc],.map (some gm)] W fun e w'=>e=.returned (.tuple #[.map none,.bool false])∧w'.there (w.heap.size+1+1) 0 fB.size∧(w'.setCells (w.heap.size+1+1) 0 fB.toList).heap[w.heap.size+1+1]?=some (.cells fB 107 (0,0))∧Hid (Below w.heap.size w (w'.setCells (w.heap.size+1+1) 0 fB.toList))):=by
    intro W hW
    have hW:=hW.out
    refine(A7 W pl rd rc l (hl.below hW.be) CS h1 cr gm G (hG.below hW.be) FH MN).mono ?_
    rintro e w' ⟨Q,hQ,hp⟩
    obtain⟨Q',a1,a2,a3⟩:=HEX.out
    have U6:Q=Q':=Pd.mV hQ.out.1 a1 (fun x=>(hQ.out.2 x).trans (a2 x).symm)
    subst U6
    rcases hp.ans with⟨hm,T,s,rfl,q1,_⟩ | ⟨rfl,q⟩
    · rw[a3]at q1
      cases q1
    · obtain⟨k1,k2,k3⟩:=km.out w' (hW.below hp.be)
      exact⟨rfl,k1,k2,k3⟩
   have sN:decide ((40:Int)<(fh G:Int))=false:=decide_eq_false (by omega)
   generalize U3:fh G=gs at*
   clear cB hl hG FH cr h1 U3 hex MN
   generalize (Rc.bB hd)=U at*
   go_enter Tryz.func57,Tryz.ntmps57
   go_wp2_with (first | (go_at_call 110;refine(PK.out _ (by exact CE.init rfl)).mono ?_;rintro e w1 ⟨rfl,HM1,c0,c1⟩) | (go_at_call 111;refine(HMO.out _ HM1).mono ?_;rintro e w2 ⟨rfl,FG,qJ,lW⟩) | (refine wpList_store_mid rfl 107 (.tmp 6) (.tmp 22) rfl (w.heap.size+1+1) 0 fB rfl rfl FG oN.out mR.out ?_))
   refine bodyPost_ret (v:=.tuple #[.agg fB,.bool false]) ?_ rfl ⟨lW.out,.inl ⟨rfl,fun _=>HEX.out⟩⟩
   refine Eq.trans (ba rfl _ _ _ _ _ _ _ rfl qJ Tryz.underlying107 rfl oN.out) ?_
   rfl
 · have Y9:Hid (∀W,CE w pl (.slice rd l.length rc) (Rc.bB hd) W→Calls Tryz.prog 110 #[.map (some gm)] W fun e w'=>e=.returned (.int .i64 (fh G:Nat))∧w'.there (w.heap.size+1+1) 0 fB.size∧(w'.setCells (w.heap.size+1+1) 0 fB.toList).heap[w.heap.size+1+1]?=some (.cells fB 107 (0,0))∧Hid (Below w.heap.size w (w'.setCells (w.heap.size+1+1) 0 fB.toList))):=by
    intro W hW
    refine(PK.out W hW).mono ?_
    rintro e w' ⟨rfl,H,_,_⟩
    obtain⟨k1,k2,k3⟩:=km.out w' H.out
    exact⟨rfl,k1,k2,k3⟩
   have sN:decide ((40:Int)<(fh G:Int))=true:=decide_eq_true (by omega)
   have X8:Hid (¬fh G≤40):=C0
   generalize U3:fh G=gs at sN C0 Y9 hGs X8
   clear cB hl hG FH cr h1 U3 MN PK km
   generalize (Rc.bB hd)=U at*
   go_enter Tryz.func57,Tryz.ntmps57
   go_wp2_with (first | (go_at_call 110;refine(Y9.out _ (by exact CE.init rfl)).mono ?_;rintro e w1 ⟨rfl,FG,qJ,lW⟩) | (refine wpList_store_mid rfl 107 (.tmp 6) (.tmp 13) rfl (w.heap.size+1+1) 0 fB rfl rfl FG oN.out mR.out ?_))
   refine bodyPost_ret (v:=.tuple #[.agg fB,.bool false]) ?_ rfl ⟨lW.out,.inl ⟨rfl,fun h=>absurd h X8.out⟩⟩
   refine Eq.trans (ba rfl _ _ _ _ _ _ _ rfl qJ Tryz.underlying107 rfl oN.out) ?_
   rfl
end
/- program.Read of any text: the rules that it gives, and what they keep to. -/
section
open Go.RowKit Go.Maps
namespace Ax
def yg(M:Nat)(t:Term):Prop:=(t.kind=0∨t.kind=1)∧t.text.size≤M
def nS(M:Nat)(a:Atom):Prop:=a.ag≠[]∧a.pred.size≤M∧∀t,t∈a.ag→yg M t
theorem Ah{aa:List Tok}{M:Nat}(h:∀t,t∈aa→t.text.size≤M):∀(f i:Nat) (acc:List Term) {ts:List Term} {j:Nat},(∀t,t∈acc→yg M t)→bP aa f i acc=(some ts,j)→ts≠[]∧∀t,t∈ts→yg M t
 | 0,i,acc,ts,j,ha,hr=>by simp[bP]at hr
 | f+1,i,acc,ts,j,ha,hr=>by
  unfold bP at hr
  split at hr
  · simp at hr
  · rename_i t j' e
    have ht:yg M t:=by
     unfold jE at e
     split at e
     · rename_i u hu
       split at e
       · rename_i hk
         simp only[Prod.mk.injEq,Option.some.injEq]at e
         rw[←e.1]
         exact⟨by simp only;omega,h u (List.mem_of_getElem? hu)⟩
       · simp at e
     · simp at e
    have ha':∀x,x∈acc++[t]→yg M x:=by
     intro x hx
     rcases List.mem_append.1 hx with hx | hx
     · exact ha x hx
     · simp at hx;subst hx;exact ht
    split at hr
    · exact Ah h f _ _ ha' hr
    · simp only[Prod.mk.injEq,Option.some.injEq]at hr
      rw[←hr.1]
      exact⟨by simp,ha'⟩
theorem Dn{aa:List Tok}{M:Nat}(h:∀t,t∈aa→t.text.size≤M){i j:Nat}{a:Atom}(ha:bQ aa i=(some a,j)):nS M a:=by
 unfold bQ at ha
 split at ha
 · simp at ha
 · rename_i t ht
   have hm:=h t (List.mem_of_getElem? ht)
   split at ha
   · split at ha
     · split at ha
       · simp at ha
       · rename_i ts j' e
         split at ha
         · simp only[Prod.mk.injEq,Option.some.injEq]at ha
           rw[←ha.1]
           obtain⟨h1,h2⟩:=Ah h _ _ _ (fun _ h=>by cases h) e
           exact⟨h1,hm,h2⟩
         · simp at ha
     · simp at ha
   · simp at ha
theorem Az{aa:List Tok}{M:Nat}(h:∀t,t∈aa→t.text.size≤M):∀(f i:Nat) (acc:List Atom) {r:List Atom} {j:Nat},(∀a,a∈acc→nS M a)→bL aa f i acc=(some r,j)→∀a,a∈r→nS M a
 | 0,i,acc,r,j,hacc,hr=>by simp[bL]at hr
 | f+1,i,acc,r,j,hacc,hr=>by
  rcases hA:bQ aa i with⟨_ | a,j'⟩
  · rw[gX hA]at hr;simp at hr
  · have hp:=Dn h hA
    have Fj:∀x,x∈acc++[a]→nS M x:=by
     intro x hx
     rcases List.mem_append.1 hx with hx | hx
     · exact hacc x hx
     · simp at hx;subst hx;exact hp
    by_cases hk:aA aa j'=6
    · rw[iP hA hk]at hr
      exact Az h f (j'+1) _ Fj hr
    · rw[fJ hA hk]at hr
      simp only[Prod.mk.injEq,Option.some.injEq]at hr
      rw[←hr.1]
      exact Fj
theorem Nq{aa:List Tok}{M:Nat}(h:∀t,t∈aa→t.text.size≤M){i j:Nat}{r:aP}(hr:dX aa i=(some r,j)):∀a,a∈r.atoms→nS M a:=by
 rcases hA:bQ aa i with⟨_ | a,j1⟩
 · rw[nN hA]at hr;simp at hr
 · have hp:=Dn h hA
   by_cases h8:aA aa j1=8
   · rcases hB:bL aa aa.length (j1+1) []with⟨_ | b,j2⟩
     · rw[ny hA h8 hB]at hr;simp at hr
     · have hb:=Az h _ _ _ (fun _ h=>by cases h) hB
       by_cases h7:aA aa j2=7
       · rw[ly hA h8 hB h7]at hr
         simp only[Prod.mk.injEq,Option.some.injEq]at hr
         rw[←hr.1]
         intro x hx
         rcases List.mem_cons.1 hx with rfl | hx
         · exact hp
         · exact hb x hx
       · rw[nh hA h8 hB h7]at hr;simp at hr
   · by_cases h7:aA aa j1=7
     · rw[lE hA h8 h7]at hr
       simp only[Prod.mk.injEq,Option.some.injEq]at hr
       rw[←hr.1]
       intro x hx
       rcases List.mem_cons.1 hx with rfl | hx
       · exact hp
       · cases hx
     · rw[nR hA h8 h7]at hr;simp at hr
theorem AA{aa:List Tok}{M:Nat}(h:∀t,t∈aa→t.text.size≤M):∀(f i:Nat) (acc:List aP) {rs:List aP} {j:Nat},(∀r,r∈acc→∀a,a∈r.atoms→nS M a)→bM aa f i acc=(some rs,j)→∀r,r∈rs→∀a,a∈r.atoms→nS M a
 | 0,i,acc,rs,j,hacc,hr=>by simp[bM]at hr
 | f+1,i,acc,rs,j,hacc,hr=>by
  by_cases h1:aA aa i=1
  · rw[iS h1]at hr
    simp only[Prod.mk.injEq,Option.some.injEq]at hr
    rw[←hr.1]
    exact hacc
  · rcases hR:dX aa i with⟨_ | r,j'⟩
    · rw[jw h1 hR]at hr;simp at hr
    · rw[kx h1 hR]at hr
      have hf:=Nq h hR
      exact AA h f j' (acc++[r]) (by
       intro x hx
       rcases List.mem_append.1 hx with hx | hx
       · exact hacc x hx
       · simp at hx;subst hx;exact hf) hr
theorem nU:∀(l:List Atom) (ps:List ByteArray) (x:ByteArray),(x∈ps∨∃a,a∈l∧a.pred=x)→x∈cE ps l
 | [],ps,x,h=>by
  rcases h with h | ⟨a,ha,_⟩
  · exact h
  · cases ha
 | a::l,ps,x,h=>by
  unfold cE
  refine nU l _ x ?_
  have dQ:∀y,y∈ps→y∈(if has ps a.pred=true then ps else ps++[a.pred]):=by
   intro y hy
   split
   · exact hy
   · exact List.mem_append.2 (.inl hy)
  have Ff:a.pred∈(if has ps a.pred=true then ps else ps++[a.pred]):=by
   split
   · rename_i h9
     exact(nM _ _).1 h9
   · simp
  rcases h with h | ⟨b,hb,rfl⟩
  · exact .inl (dQ x h)
  · rcases List.mem_cons.1 hb with rfl | hb
    · exact .inl Ff
    · exact .inr ⟨b,hb,rfl⟩
theorem yC:∀(rs:List aP) (i:Nat) (ps:List ByteArray),ps.length≤6→bW i ps rs=none→(rs=[]∨i+rs.length≤8)∧(∀r,r∈rs→r.body.length≤2∧∀a,a∈r.atoms→a.ag.length≤3)∧∃all:List ByteArray,all.length≤6∧(∀x,x∈ps→x∈all)∧∀r,r∈rs→∀a,a∈r.atoms→a.pred∈all
 | [],i,ps,hp,_=>⟨.inl rfl,fun r hr=>(by cases hr),ps,hp,fun x hx=>hx,fun r hr=>(by cases hr)⟩
 | r::rs,i,ps,hp,h=>by
  unfold bW at h
  split at h
  · cases h
  · rename_i hm
    have hm:fI i (cE ps r.atoms) r=false:=by simpa using hm
    unfold fI at hm
    simp only[Bool.or_eq_false_iff,decide_eq_false_iff_not]at hm
    obtain⟨⟨⟨m1,m2⟩,m3⟩,m4⟩:=hm
    obtain⟨k1,k2,all,k3,k4,k5⟩:=yC rs (i+1) (cE ps r.atoms) (by omega) h
    refine⟨.inr ?_, ?_,all,k3,fun x hx=>k4 x (nU _ _ _ (.inl hx)), ?_⟩
    · rw[List.length_cons]
      rcases k1 with rfl | k1
      · simp;omega
      · omega
    · intro x hx
      rcases List.mem_cons.1 hx with rfl | hx
      · refine⟨by omega,fun a ha=> ?_⟩
        unfold iw at m4
        rw[List.any_eq_false]at m4
        have:=m4 a ha
        unfold wide at this
        simp at this
        omega
      · exact k2 x hx
    · intro x hx a ha
      rcases List.mem_cons.1 hx with rfl | hx
      · exact k4 _ (nU _ _ _ (.inr ⟨a,ha,rfl⟩))
      · exact k5 x hx a ha
theorem eD(m:List (ByteArray×Nat))(p q:ByteArray)(n:Nat):look ((p,n)::m) q=if p=q then some n else look m q:=by
 unfold look
 rw[List.find?_cons]
 by_cases h:p=q
 · simp[h]
 · simp[h]
theorem yI:∀(l:List Atom) (m:List (ByteArray×Nat)),du m l=none→(∀a,a∈l→∀n,look m a.pred=some n→a.ag.length=n)∧∀a,a∈l→∀b,b∈l→a.pred=b.pred→a.ag.length=b.ag.length
 | [],m,_=>⟨fun a ha=>(by cases ha),fun a ha=>(by cases ha)⟩
 | a::l,m,h=>by
  unfold du at h
  split at h
  · rename_i n hn
    split at h
    · rename_i he
      obtain⟨k1,k2⟩:=yI l m h
      have ju:∀x,x∈a::l→∀n,look m x.pred=some n→x.ag.length=n:=by
       intro x hx n' LR
       rcases List.mem_cons.1 hx with rfl | hx
       · rw[hn]at LR
         simp at LR
         omega
       · exact k1 x hx n' LR
      refine⟨ju, ?_⟩
      intro x hx y hy e
      rcases List.mem_cons.1 hx with rfl | TZ<;>rcases List.mem_cons.1 hy with rfl | Y7
      · rfl
      · rw[k1 y Y7 n (by rw[←e];exact hn)];exact he.symm
      · rw[k1 x TZ n (by rw[e];exact hn)];exact he
      · exact k2 x TZ y Y7 e
    · cases h
  · rename_i hn
    obtain⟨k1,k2⟩:=yI l _ h
    refine⟨?_, ?_⟩
    · intro x hx n' LR
      rcases List.mem_cons.1 hx with rfl | hx
      · rw[hn]at LR
        cases LR
      · by_cases e:a.pred=x.pred
        · rw[e]at hn
          rw[hn]at LR
          cases LR
        · exact k1 x hx n' (by rw[eD,if_neg e];exact LR)
    · intro x hx y hy e
      rcases List.mem_cons.1 hx with rfl | TZ<;>rcases List.mem_cons.1 hy with rfl | Y7
      · rfl
      · exact(k1 y Y7 _ (by rw[eD,if_pos e])).symm
      · exact k1 x TZ _ (by rw[eD,if_pos e.symm])
      · exact k2 x TZ y Y7 e
def bw(s:ByteArray):List aP:=(bM (split s) (split s).length 0 []).1.getD []
structure dV(rs:List aP):Prop where
 oo:rs.length≤8
 two:∀r,r∈rs→r.body.length≤2
 atoms:∀r,r∈rs→∀a,a∈r.atoms→nS 600 a∧a.ag.length≤3
 one:Pd.One (aS rs)
 cD:∃all:List ByteArray,all.length≤6∧∀p,p∈aS rs→p.1∈all
theorem yK{s:ByteArray}{rs:List aP}{j:Nat}(hs:s.size≤600)(hr:bM (split s) (split s).length 0 []=(some rs,j))(h3:bW 0 [] rs=none)(h4:du [] (rs.flatMap aP.atoms)=none):dV rs:=by
 have h1:=AA (M:=600) (fun t ht=>Nat.le_trans (jf s t ht) hs) _ _ _ (fun _ h=>by cases h) hr
 obtain⟨k1,k2,all,k3,_,k5⟩:=yC rs 0 [] (by simp) h3
 obtain⟨_,k7⟩:=yI _ _ h4
 refine⟨?_,fun r hr=>(k2 r hr).1,fun r hr a ha=>⟨h1 r hr a ha,(k2 r hr).2 a ha⟩, ?_,all,k3, ?_⟩
 · rcases k1 with rfl | k1
   · simp
   · omega
 · intro x hx y hy e
   obtain⟨a,ha,rfl⟩:=List.mem_map.1 hx
   obtain⟨b,hb,rfl⟩:=List.mem_map.1 hy
   have:=k7 a ha b hb e
   unfold oc at e ⊢
   simp only at e
   rw[e,this]
 · intro p hp
   obtain⟨a,ha,rfl⟩:=List.mem_map.1 hp
   obtain⟨r,hr,ha⟩:=List.mem_flatMap.1 ha
   exact k5 r hr a ha
end Ax
theorem K8{w:World}{rd:Option Addr}{rc:Nat}{l:List MR}(h:aB w rd rc l)(ho:Ax.dV (l.map MR.ak)):eH w rd rc l:=by
 refine⟨h, ?_, ?_, ?_⟩
 · intro r hr
   have:=ho.atoms _ (List.mem_map_of_mem hr) r.head.1 (by simp[Ax.aP.atoms,MR.ak])
   exact⟨this.2,fun t ht=>(this.1.2.2 t ht).1⟩
 · intro r hr x hx
   have:=ho.atoms _ (List.mem_map_of_mem hr) x.1 (by
    simp only[Ax.aP.atoms,MR.ak,List.mem_cons]
    exact .inr (List.mem_map_of_mem hx))
   exact⟨this.2,fun t ht=>(this.1.2.2 t ht).1⟩
 · intro r hr
   have:=ho.two _ (List.mem_map_of_mem hr)
   simpa [MR.ak]using this
theorem El(s:ByteArray)(w:World)(hs:s.size≤maxLen):
 Calls Tryz.prog 56 #[.string s] w fun e w'=>Below w.heap.size w w'∧(((Ax.read s).2.1≠0∧∃pl rd n rc,e=.returned (.tuple #[.agg #[.string pl,.slice rd n rc],.int .i64 (Ax.read s).2.1,.int .i64 (Ax.read s).2.2]))∨((Ax.read s).2.1=0∧Ax.dV (Ax.bw s)∧(Ax.read s).1.size≤600∧∃rd rc l,e=.returned (.tuple #[.agg #[.string (Ax.read s).1,.slice rd (List.length l) rc],.int .i64 0,.int .i64 0])∧aB w' rd rc l∧l.map MR.ak=Ax.bw s)):=by
 by_cases h0:(Ax.read s).2.1=0
 · have sN:¬600<s.size:=by
    intro h
    rw[Ax.NX h]at h0
    simp at h0
   rcases hR:Ax.bM (Ax.split s) (Ax.split s).length 0 []with⟨_ | rs,j⟩
   · have hj:=Ax.s6 (Ax.mW s) _ _ _ (Ax.sV s) hR
     have ht:(Ax.split s)[j]?=some (Ax.split s)[j]:=List.getElem?_eq_getElem hj
     rw[Ax.Pe sN hR ht]at h0
     simp at h0
   · cases h3:Ax.bW 0 [] rs with
     | some p=>rw[Ax.Gu sN hR h3]at h0;simp at h0
     | none=>
      cases h4:Ax.du [] (rs.flatMap Ax.aP.atoms)with
      | some p=>rw[Ax.Gz sN hR h3 h4]at h0;simp at h0
      | none=>
       cases h5:Ax.b7 rs with
       | some p=>rw[Ax.Gx sN hR h3 h4 h5]at h0;simp at h0
       | none=>
        have cr:s.size≤600:=by omega
        have Sf:=Ax.fT s
        have jF:=Ax.lH (M:=600) (fun t ht=>Nat.le_trans (Ax.jf s t ht) cr) _ _ _ (fun _ h=>by cases h) hR
        have HF:rs.length≤1000∧∀r,r∈rs→Ax.Fits 600 1000 r:=by
         refine⟨by have:=jF.2;simp only[List.length_nil,Nat.zero_add]at this;omega,fun r hr=> ?_⟩
         have:=jF.1 r hr
         exact⟨by have:=this.1;omega,this.2⟩
        have he:Ax.bw s=rs:=by unfold Ax.bw;rw[hR];rfl
        have cB:=Ax.yK cr hR h3 h4
        rw[he]
        refine(Iv s w cr rs j hR HF h3 h4 h5).mono ?_
        rintro e w' ⟨rd,rc,l,rfl,q1,q2,q3⟩
        have og:=Ax.B2 sN hR h3 h4 h5
        refine⟨q3,.inr ⟨h0,cB, ?_,rd,rc,l, ?_,q2,q1⟩⟩
        · rw[og]
          exact Nat.le_trans (Ax.Hz s) cr
        · rw[og]
          rfl
 · refine(OO s w hs).mono ?_
   rintro e w' ⟨rd,n,rc,rfl,hb⟩
   exact⟨hb,.inl ⟨h0,_,_,_,_,rfl⟩⟩
end
end Go.Proofs.YtdmicblafmhflaaGreatDoor
