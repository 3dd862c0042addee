/- Replay, walked. -/
import Derived.Test.YtdmicblafmhflaaGreatDoorC49
import Derived.Test.YtdmicblafmhflaaGreatDoorC01
set_option linter.unusedSimpArgs false
set_option linter.unusedVariables false
set_option maxHeartbeats 4000000
set_option maxRecDepth 100000
namespace Go.Proofs.YtdmicblafmhflaaGreatDoor
section
open Go.RowKit Go.Maps
namespace Rp
theorem QE(K:Nat→Int)(hd:List UInt8){tl:List (List Int×List Int)}{j k:Nat}(hj:j<k)(hk:k≤tl.length)(t:List UInt8):∃r,(cB K hd (tl.take k)++t).drop (cB K hd (tl.take j)).length=kr K (p5 K hd (tl.take j)) (tl[j]'(by omega))++r:=by
 have e:tl.take k=tl.take j++(tl[j]'(by omega)::(tl.take k).drop (j+1)):=by
  have h1:=(List.take_append_drop j (tl.take k)).symm
  rw[List.take_take,Nat.min_eq_left (by omega),List.drop_eq_getElem_cons (by rw[List.length_take];omega)]at h1
  rw[List.getElem_take]at h1
  exact h1
 rw[e,si,List.append_assoc,List.drop_left]
 exact⟨_,by rw[cB,List.append_assoc]⟩
end Rp
structure GY(K:Nat→Int)(hd:List UInt8)(tl:List (List Int×List Int))(k:Nat)(t:List UInt8):Prop where
 le:k≤tl.length
 Qg:t=[]∨∃(h:k<tl.length) (r:List UInt8),r≠[]∧t≠[]∧t++r=Rp.kr K (Rp.p5 K hd (tl.take k)) tl[k]
theorem yf(K:Nat→Int)(w:World)(kl:List Ax.ay)(gv:Nat→Bool)(hg:jk gv)(hd:List UInt8)(bT:hd.length=32)(hK:Dg.ui w K)(hU:eY w)(tl:List (List Int×List Int))(k:Nat)(t:List UInt8)(hs:tl.length≤1048576)(hT:GY K hd tl k t):
 Calls Tryz.prog 30 #[.string ⟨(Ex.body kl gv++hd).toArray⟩,.string ⟨(Rp.cB K hd (tl.take k)++t).toArray⟩] w fun e w'=>∃eg,e=.returned (.tuple #[.pointer (some ⟨eg,0,none⟩),.int .i64 ((Rp.cB K hd (tl.take k)).length:Nat),.int .i64 (if t=[]then 0 else 9)])∧xi K w w' eg kl gv hd (tl.take k):=by
 obtain⟨L,ZL⟩:∃L,L=Rp.cB K hd (tl.take k)++t:=⟨_,rfl⟩
 have xt:t.length≤640:=by
  rcases hT.Qg with rfl | ⟨h,r,_,_,e⟩
  · simp
  · have:=(Rp.vV K (Rp.p5 K hd (tl.take k)) tl[k]).1
    rw[←e,List.length_append]at this
    omega
 have yE:L.length≤1000000000:=by
  have h1:=Rp.vH K (tl.take k) hd
  have h2:(tl.take k).length≤tl.length:=by rw[List.length_take];omega
  rw[ZL,List.length_append]
  omega
 have cE:(⟨L.toArray⟩:ByteArray).size=L.length:=rfl
 have HIM:Hid (Calls Tryz.prog 24 #[.string ⟨(Ex.body kl gv++hd).toArray⟩] w fun e w1=>∃eg,e=.returned (.tuple #[.pointer (some ⟨eg,0,none⟩),.int .i64 0])∧Hid (xi K w w1 eg kl gv hd (tl.take 0))):=by
  refine(Fk w kl gv hg hd bT hU).mono ?_
  rintro e w' ⟨eg,rfl,q1,q2,q3⟩
  exact⟨eg,rfl,q1,⟨_,q2⟩,q3⟩
 have MJ:Hid (∀W,Below w.heap.size w W→Dg.ui W K∧eY W):=fun W hW=>⟨hK.below hW,Utf8Tabs_below hU hW⟩
 have Sf:Hid (GY K hd tl k t):=hT
 have S4:Hid (L=Rp.cB K hd (tl.take k)++t):=ZL
 have YB:Hid (∀p,(⟨L.toArray⟩:ByteArray).extract p L.length=⟨(L.drop p).toArray⟩):=fun p=>sA L p
 have Cz:=hT.le
 rw[←ZL]
 generalize Yf:(⟨L.toArray⟩:ByteArray)=S at*
 generalize (⟨(Ex.body kl gv++hd).toArray⟩:ByteArray)=E at*
 clear ZL hT hK hU hg Yf
 go_enter Tryz.func30,Tryz.ntmps30
 go_wp2_with (go_at_call 24;refine HIM.out.mono ?_;rintro e w1 ⟨eg,rfl,H1⟩)
 go_loopw [9] (fun i wr=>∃(j:Nat),j≤k∧i=.int .i64 ((Rp.cB K hd (tl.take j)).length:Nat)∧xi K w wr eg kl gv hd (tl.take j)) (fun i _=>L.length-(intOf i).toNat)
 case atStart=>exact⟨0,Nat.zero_le _,rfl,H1.out⟩
 case round=>
  obtain⟨j,hj,rfl,hR⟩:=hrel
  have HR:Hid (xi K w wr eg kl gv hd (tl.take j)):=hR
  have Wh:=MJ.out wr hR.aZ
  clear H1 HIM hR
  by_cases Wd:j<k
  · obtain⟨r,hr⟩:=Rp.QE K hd Wd Sf.out.le t
    rw[←S4.out]at hr
    have VW:j<tl.length:=by omega
    have hls:=congrArg List.length hr
    rw[List.length_drop,List.length_append]at hls
    have h33:=(Rp.vV K (Rp.p5 K hd (tl.take j)) tl[j]).2
    have HSN:Hid (tl.take (j+1)=tl.take j++[tl[j]]):=kO tl VW
    have hex:=YB.out (Rp.cB K hd (tl.take j)).length
    rw[hr]at hex
    have sM:Hid (Calls Tryz.prog 46 #[.pointer (some ⟨eg,0,none⟩),.string ⟨(Rp.kr K (Rp.p5 K hd (tl.take j)) tl[j]++r).toArray⟩] wr fun e w2=>e=.returned (.tuple #[.int .i64 ((Rp.kr K (Rp.p5 K hd (tl.take j)) tl[j]).length:Nat),.bool true])∧Hid (xi K w w2 eg kl gv hd (tl.take (j+1)))):=by
     rw[HSN.out]
     refine(HR.out.whole (by rw[List.length_take];omega) Wh.1 Wh.2 tl[j] r ?_).mono (fun e w' ⟨a,b⟩=>⟨a,b⟩)
     rw[List.length_append]
     omega
    have HPN:Hid ((Rp.cB K hd (tl.take (j+1))).length=(Rp.cB K hd (tl.take j)).length+(Rp.kr K (Rp.p5 K hd (tl.take j)) tl[j]).length):=by
     have e1:(Rp.cB K hd (tl.take (j+1))).length=(Rp.cB K hd (tl.take j)).length+(Rp.kr K (Rp.p5 K hd (tl.take j)) tl[j]).length:=by rw[HSN.out,Rp.pj,List.length_append]
     exact e1
    generalize (⟨(Rp.kr K (Rp.p5 K hd (tl.take j)) tl[j]++r).toArray⟩:ByteArray)=X at hex sM
    generalize (Rp.kr K (Rp.p5 K hd (tl.take j)) tl[j]).length=q at*
    generalize (Rp.cB K hd (tl.take j)).length=p at*
    have LI:decide ((p:Int)<(L.length:Int))=true:=decide_eq_true (by omega)
    have b1:(0:Int)≤(p:Int):=by omega
    have b2:(p:Int)≤(L.length:Int):=by omega
    clear hr Wh Sf S4 MJ YB
    go_wp2_with (go_at_call 46;refine sM.out.mono ?_;rintro e w2 ⟨rfl,H2⟩)
    go_roundw
    case rel=>exact⟨j+1,Wd,by rw[HPN.out];go_num,H2.out⟩
    case measure=>simp[intOf];omega
  · have Wu:j=k:=by omega
    subst Wu
    by_cases yx:t=[]
    · have HLN:Hid (L.length=(Rp.cB K hd (tl.take j)).length):=by
       have e1:L.length=(Rp.cB K hd (tl.take j)).length:=by rw[S4.out,yx,List.append_nil]
       exact e1
      have HTE:Hid (t=[]):=yx
      have HP:Hid (∃p,p=(Rp.cB K hd (tl.take j)).length):=(⟨_,rfl⟩:∃p,p=(Rp.cB K hd (tl.take j)).length)
      obtain⟨p,hp⟩:=HP.out
      have HPE:Hid (p=(Rp.cB K hd (tl.take j)).length):=hp
      rw[←hp]at HLN
      rw[←hp]
      clear HP hp
      have LI:decide ((p:Int)<(L.length:Int))=false:=decide_eq_false (by have:=HLN.out;omega)
      have GH:¬p<L.length:=by have:=HLN.out;omega
      clear Sf S4 YB MJ Wh yx
      go_wp2_with fail
      go_ret3
      refine⟨eg, ?_,HR.out⟩
      rw[←HPE.out]
      rfl
    · obtain⟨VW,r,hr,_,er⟩:=Sf.out.Qg.resolve_left yx
      have hex:=YB.out (Rp.cB K hd (tl.take j)).length
      have Jv:L.drop (Rp.cB K hd (tl.take j)).length=t:=by rw[S4.out,List.drop_left]
      rw[Jv]at hex
      have WT:L.length=(Rp.cB K hd (tl.take j)).length+t.length:=by rw[S4.out,List.length_append]
      have htp:=List.length_pos_iff.2 yx
      have sM:Hid (Calls Tryz.prog 46 #[.pointer (some ⟨eg,0,none⟩),.string ⟨t.toArray⟩] wr fun e w2=>e=.returned (.tuple #[.int .i64 0,.bool false])∧Hid (xi K w w2 eg kl gv hd (tl.take j))):=(HR.out.Qg Wh.1 tl[j] hr er).mono (fun e w' ⟨a,b⟩=>⟨a,b⟩)
      generalize (⟨t.toArray⟩:ByteArray)=X at hex sM
      obtain⟨p,hp⟩:∃p,p=(Rp.cB K hd (tl.take j)).length:=⟨_,rfl⟩
      have HPE:Hid (p=(Rp.cB K hd (tl.take j)).length):=hp
      rw[←hp]at hex WT
      rw[←hp]
      clear hp
      have LI:decide ((p:Int)<(L.length:Int))=true:=decide_eq_true (by omega)
      have b1:(0:Int)≤(p:Int):=by omega
      have b2:(p:Int)≤(L.length:Int):=by omega
      have lj:p<L.length:=by omega
      clear Sf S4 YB MJ Wh Jv er hr WT htp xt yx
      go_wp2_with (go_at_call 46;refine sM.out.mono ?_;rintro e w2 ⟨rfl,H2⟩)
      go_ret3
      refine⟨eg, ?_,H2.out⟩
      rw[←HPE.out]
      rfl
end
/- An export without its first byte: what its first text is. -/
section
open Go.RowKit Go.Maps
namespace Ax
theorem lQ(s:ByteArray):∀f p b acc,∃m,aV s f p b acc=acc++m
 | 0,p,b,acc=>⟨_,rfl⟩
 | f+1,p,b,acc=>by
  unfold aV
  split
  · split
    · exact lQ s f _ _ _
    · simp only
      split
      · exact⟨_,rfl⟩
      · obtain⟨m,hm⟩:=lQ s f (p+(Utf8.decode s p).2) (p+(aK (s.extract p s.size) (Utf8.decode s p).1).2) (acc++[⟨(aK (s.extract p s.size) (Utf8.decode s p).1).1,p,s.extract p (p+(aK (s.extract p s.size) (Utf8.decode s p).1).2)⟩])
        rw[hm,List.append_assoc]
        exact⟨_,rfl⟩
  · exact⟨_,rfl⟩
theorem Bs{t:List UInt8}(h:t.length<600):(read ⟨(40::t).toArray⟩).2.1=2:=by
 obtain⟨s,hs⟩:∃s:ByteArray,s=⟨(40::t).toArray⟩:=⟨_,rfl⟩
 have hz:s.size=t.length+1:=by rw[hs];rfl
 have hb:byte s 0=40:=by rw[hs];rfl
 have hd:Utf8.decode s 0=(40,1):=by
  have:=j7 s 0 (by omega) (by omega)
  rw[hb]at this
  exact this
 have h1:∃m,split s=⟨4,0,s.extract 0 1⟩::m:=by
  unfold split
  rw[hz,nk s t.length 0 0 [] (by omega) (by rw[hd];decide) 4 1 (by rw[hd];rfl) (by decide)]
  obtain⟨m,hm⟩:=lQ s t.length (0+(Utf8.decode s 0).2) (0+1) ([]++[⟨4,0,s.extract 0 (0+1)⟩])
  exact⟨m,hm⟩
 obtain⟨m,hm⟩:=h1
 have hk:(split s)[0]?=some ⟨4,0,s.extract 0 1⟩:=by rw[hm];rfl
 have hp:bV (split s) (split s).length 0 []=(none,0):=by
  have hl:(split s).length=m.length+1:=by rw[hm];rfl
  rw[hl]
  exact jo (by rw[cP hk];simp) (mY (BW hk (by simp)))
 rw[←hs,Nr (by omega) hp hk]
theorem BX(kl:List ay):∃r,(au kl).data.toList=110::40::88::41::r:=by
 have e:(bp (gR kl)).flatMap (fun x=>x.2.data.toList)=(bp lr).flatMap (fun x=>x.2.data.toList)++(bp ((kl.take 6).map Kv)).flatMap (fun x=>x.2.data.toList):=by
  unfold gR bp
  rw[List.flatMap_append,List.flatMap_append]
 show ∃r,((bp (gR kl)).flatMap fun x=>x.2.data.toList)=_
 rw[e]
 exact⟨_,rfl⟩
theorem FO:(read ⟨[110].toArray⟩).2.1=2∧(read ⟨[110,40].toArray⟩).2.1=2∧(read ⟨[110,40,88].toArray⟩).2.1=2∧(read ⟨[110,40,88,41].toArray⟩).2.1=2:=by
 refine⟨?_, ?_, ?_, ?_⟩<;>decide+kernel
theorem vR{t u:List UInt8}(e:t=u)(h:(read ⟨u.toArray⟩).2.1=2)(hl:u.length≤600):(read ⟨t.toArray⟩).2.1=2∧t.length≤600:=by
 subst e
 exact⟨h,hl⟩
end Ax
namespace Rd
theorem NS(kl:List Ax.ay)(rest:List UInt8):(Ax.read ⟨(text ((Rc.aC (Ax.au kl)++rest).drop 1) false).1.toArray⟩).2.1=2∧(text ((Rc.aC (Ax.au kl)++rest).drop 1) false).1.length≤600∨∃l,text ((Rc.aC (Ax.au kl)++rest).drop 1) false=([],l,true):=by
 obtain⟨r,hr⟩:=Ax.BX kl
 have hz:=Ax.ji kl
 have hlz:(Ax.au kl).data.toList.length=(Ax.au kl).size:=by simp
 unfold Rc.aC
 by_cases h:(Ax.au kl).size≤127
 · rw[Rc.kR h,hr]
   have e:(([UInt8.ofNat (Ax.au kl).size]++110::40::88::41::r)++rest).drop 1=Rc.aQ 110++(40::(88::41::r++rest)):=by
    rw[Rc.kR (by decide)]
    rfl
   rw[e]
   unfold text
   rw[eM (by decide) (by decide)]
   simp only
   by_cases hl:(40::(88::41::r++rest)).length<110
   · rw[if_pos hl]
     exact .inr ⟨_,rfl⟩
   · rw[if_neg hl]
     refine .inl ⟨?_, ?_⟩
     · exact Ax.Bs (t:=(88::41::r++rest).take 109) (by rw[List.length_take];omega)
     · rw[List.length_take];omega
 · rw[Rc.qU h]
   obtain⟨q,hq⟩:∃q,q=(Ax.au kl).size/128:=⟨_,rfl⟩
   have h1:1≤q:=by omega
   have h4:q≤4:=by omega
   have e:((UInt8.ofNat ((Ax.au kl).size%128+128)::Rc.aQ ((Ax.au kl).size/128)++(Ax.au kl).data.toList)++rest).drop 1=Rc.aQ q++(110::40::88::41::(r++rest)):=by
    rw[hr,←hq]
    simp
   rw[e]
   have ht:(text (Rc.aQ q++(110::40::88::41::(r++rest))) false).1=(110::40::88::41::(r++rest)).take q:=by
    unfold text
    rw[eM (by omega) (by omega)]
    simp only
    rw[if_neg (by simp;omega)]
   obtain⟨s1,s2,s3,s4⟩:=Ax.FO
   have hc:q=1∨q=2∨q=3∨q=4:=by omega
   refine .inl ?_
   rcases hc with rfl | rfl | rfl | rfl
   · exact Ax.vR (u:=[110]) (ht.trans rfl) s1 (by decide)
   · exact Ax.vR (u:=[110,40]) (ht.trans rfl) s2 (by decide)
   · exact Ax.vR (u:=[110,40,88]) (ht.trans rfl) s3 (by decide)
   · exact Ax.vR (u:=[110,40,88,41]) (ht.trans rfl) s4 (by decide)
end Rd
end
/- Preds of no rules: slices.SortFunc of nothing. -/
section
open Go.RowKit Go.Maps
theorem Q7(w:World):Calls Tryz.prog 242 #[.int .u64 0] w fun e w'=>e=.returned (.int .i64 0)∧w'=w:=by
 go_enter Tryz.func242,Tryz.ntmps242
 go_wp2_with fail
 go_ret
 exact⟨by kernel_rfl,rfl⟩
theorem YX(w:World):Calls Tryz.prog 191 #[.int .u64 0] w fun e w'=>e=.returned (.int .i64 0)∧w'=w:=by
 have h:=Q7
 go_enter Tryz.func191,Tryz.ntmps191
 go_wp2_with (go_at_call 242;refine(h _).mono ?_;rintro e w1 ⟨rfl,rfl⟩)
 go_ret
 exact⟨rfl,rfl⟩
theorem D0(w:World)(f:Value):Calls Tryz.prog 233 #[.slice none 0 0,.int .i64 0,.int .i64 0,f] w fun e w'=>e=.returned (.tuple #[])∧w'=w:=by
 go_enter Tryz.func233,Tryz.ntmps233
 go_wp2_with fail
 go_loopw [8] (fun i wr=>i=.int .i64 1∧wr=w) (fun _ _=>0)
 case atStart=>exact⟨rfl,rfl⟩
 case round=>
  obtain⟨rfl,rfl⟩:=hrel
  go_wp2_with fail
  go_end0
  exact⟨rfl,rfl⟩
theorem QY(w:World)(f:Value):Calls Tryz.prog 190 #[.slice none 0 0,.int .i64 0,.int .i64 0,.int .i64 0,f] w fun e w'=>e=.returned (.tuple #[])∧w'=w:=by
 have h:=D0
 go_enter Tryz.func190,Tryz.ntmps190
 go_wp2_with fail
 go_loopw [1,2] (fun a b wr=>a=.int .i64 0∧b=.int .i64 0∧wr=w) (fun _ _ _=>0)
 case atStart=>exact⟨rfl,rfl,rfl⟩
 case round=>
  obtain⟨rfl,rfl,rfl⟩:=hrel
  go_wp2_with (go_at_call 233;refine(h _ _).mono ?_;rintro e w1 ⟨rfl,rfl⟩)
  exact bodyPost_ret (results_none rfl _ _ _) rfl ⟨rfl,rfl⟩
theorem Md(w:World)(f:Value):Calls Tryz.prog 113 #[.slice none 0 0,f] w fun e w'=>e=.returned (.tuple #[])∧w'=w:=by
 have h:=QY
 have h2:=YX
 go_enter Tryz.func113,Tryz.ntmps113
 go_wp2_with (first | (go_at_call 191;refine(h2 _).mono ?_;rintro e w1 ⟨rfl,rfl⟩) | (go_at_call 190;refine(h _ _).mono ?_;rintro e w1 ⟨rfl,rfl⟩))
 go_end0
 exact⟨rfl,rfl⟩
theorem JS(w:World)(pl:ByteArray)(rd:Option Addr)(rc:Nat):
 Calls Tryz.prog 59 #[.agg #[.string pl,.slice rd 0 rc]] w fun e w'=>e=.returned (.slice none 0 0)∧Below w.heap.size w w':=by
 have bL:Below w.heap.size w (w.alloc (.cells #[.string pl,.slice rd 0 rc] 101)):=(Below.refl _ _).alloc (Nat.le_refl _) _
 have Nw:=Md
 have sO:Hid (∀W,Calls Tryz.prog 116 #[.slice none 0 0] W fun e w'=>e=.returned (.slice none 0 0)∧Hid (Below W.heap.size W w')):=by
  intro W
  refine(uS W.heap.size W none 0 [] (World.ownsRow_nil _ _ _ _) (by decide)).mono ?_
  rintro e w' ⟨rfl,_,q⟩
  exact⟨rfl,q.aJ (Below.refl _ _) (Nat.le_refl _) (by simp[Value.ownBlock])⟩
 go_enter Tryz.func59,Tryz.ntmps59
 go_wp2_with fail
 go_loopw [3,11] (fun v i wr=>v=.slice none 0 0∧i=.int .i64 0∧Hid (Below w.heap.size w wr)) (fun _ _ _=>0)
 case atStart=>exact⟨rfl,rfl,bL⟩
 case round=>
  obtain⟨rfl,rfl,hb⟩:=hrel
  clear bL
  go_wp2_with (first | (go_at_call 113;refine(Nw _ _).mono ?_;rintro e w2 ⟨rfl,rfl⟩) | (go_at_call 116;refine(sO.out _).mono ?_;rintro e w3 ⟨rfl,h3⟩))
  go_ret
  exact⟨rfl,hb.out.trans (h3.out.mono hb.out.size)⟩
end
/- state.readGiven of a reader that has failed, no predicates. -/
section
open Go.RowKit Go.Maps
theorem Rd.FM(l:List UInt8):Rd.names l true=([],l,true):=by
 simp[Rd.names,Rd.number,Rd.texts]
theorem yj(wS w:World)(rb:Nat)(l:List UInt8)(hb:Below wS.heap.size wS w)(vX:wS.heap.size≤rb)(hr:bC w rb l true)(hl:l.length≤1000000000)(qd:Option Addr)(qc:Nat)(hq:w.ownsRow 0 112 2 (.slice qd 0 qc) 0 []):
 Calls Tryz.prog 82 #[.pointer (some ⟨rb,0,none⟩),.slice qd 0 qc] w fun e w'=>∃gm,e=.returned (.tuple #[.map (some gm),.bool false])∧Below wS.heap.size wS w':=by
 have gh:=pL w rb l true hr hl
 rw[Rd.FM]at gh
 simp only[List.length_nil]at gh
 have ze:Hid (Calls Tryz.prog 140 #[.pointer (some ⟨rb,0,none⟩)] w fun e w1=>∃g,e=.returned (.slice (some ⟨g,0,none⟩) 0 0)∧Hid (bC w1 rb l true∧Below wS.heap.size wS w1∧w1.ownsRow 0 112 2 (.slice qd 0 qc) 0 [])):=by
  refine gh.mono ?_
  rintro e w1 ⟨g,rfl,q1,q2,q3⟩
  unfold bC at hr
  exact⟨g,rfl,q2,q3.aJ hb hb.size (by simpa using vX),(kp.pW q3 hr (bad:=[251]) (by simp)).row hq (by simp)⟩
 have Ws:Hid (∀w1,Below wS.heap.size wS w1→bC w1 rb l true→w1.ownsRow 0 112 2 (.slice qd 0 qc) 0 []→Calls Tryz.prog 58 #[.slice qd 0 qc] w1 fun e w2=>∃gm,e=.returned (.map (some gm))∧Hid (bC w2 rb l true∧Below wS.heap.size wS w2)):=by
  intro w1 a8 E6 Z4
  refine(lR w1 0 qd qc [] Z4 (by decide) (fun p hp=>by cases hp)).mono ?_
  rintro e w2 ⟨T,rfl,hT⟩
  refine⟨_,rfl, ?_,a8.trans (hT.aZ.mono a8.size)⟩
  unfold bC at E6 ⊢
  rw[hT.aZ.block _ (lt_of_heap E6)]
  exact E6
 have PF:Hid (∀w2,bC w2 rb l true→Calls Tryz.prog 142 #[.pointer (some ⟨rb,0,none⟩)] w2 fun e w'=>e=.returned (.bool true)∧w'=w2):=fun w2 h=>fJ w2 rb l true h
 clear gh hr hq hb
 go_enter Tryz.func82,Tryz.ntmps82
 go_wp2_with (first | (go_at_call 140;refine ze.out.mono ?_;rintro e w1 ⟨gn,rfl,H1⟩) | (go_at_call 58;refine(Ws.out w1 H1.out.2.1 H1.out.1 H1.out.2.2).mono ?_;rintro e w2 ⟨gm,rfl,H2⟩))
 go_loopw [20] (fun i wr=>i=.int .i64 0∧wr=w2) (fun _ _=>0)
 case atStart=>exact⟨rfl,rfl⟩
 case round=>
  obtain⟨rfl,rfl⟩:=hrel
  go_wp2_with (go_at_call 142;refine(PF.out _ H2.out.1).mono ?_;rintro e w3 ⟨rfl,rfl⟩)
  go_ret2
  exact⟨gm,rfl,H2.out.2⟩
end
/- state.Read, Import, Replay of an export without its first byte. -/
section
open Go.RowKit Go.Maps
def pF:Array Value:=pN (.string ⟨#[]⟩) (.slice none 0 0) (.map none) (.map none)
theorem wY:pF.size=36:=rfl
theorem Ih:∀v,v∈pF.toList→v.oneCell'=true:=by
 intro v hv
 simp[pF,pN]at hv
 rcases hv with rfl | rfl | rfl | rfl<;>rfl
theorem Js(w:World):Calls Tryz.prog 56 #[.string ⟨#[]⟩] w fun e w'=>∃pl rd rc,e=.returned (.tuple #[.agg #[.string pl,.slice rd 0 rc],.int .i64 0,.int .i64 0])∧Below w.heap.size w w':=by
 refine(IV ⟨#[]⟩ w (by decide) [] 0 (rfl:Ax.bV _ _ _ _=_) (⟨by decide,fun r h=>by cases h⟩:_∧_) (rfl:Ax.cz _ _ _=_) (rfl:Ax.dE _ _=_) (rfl:Ax.b7 _=_)).mono ?_
 rintro e w' ⟨rd,rc,l,rfl,hl,_,hb⟩
 have:l=[]:=by simpa using hl
 subst this
 exact⟨_,_,_,rfl,hb⟩
theorem Fa(w:World)(kl:List Ax.ay)(gv:Nat→Bool)(hd:List UInt8)(bT:hd.length=32):
 Calls Tryz.prog 45 #[.string ⟨((Ex.body kl gv++hd).drop 1).toArray⟩] w fun e w'=>e=.returned (.tuple #[.agg pF,.bool false])∧Below w.heap.size w w':=by
 obtain⟨rest,uK⟩:∃rest,Ex.body kl gv=Rc.aC (Ax.au kl)++rest:=⟨_,by unfold Ex.body;simp only[List.append_assoc];rfl⟩
 have hbp:0<(Ex.body kl gv).length:=by
  have:=Rd.wF (Ax.au kl).size
  rw[uK]
  unfold Rc.aC
  simp only[List.length_append]
  omega
 have fl:=vM kl gv
 have ko:=Rd.NS kl rest
 rw[←uK]at ko
 obtain⟨A,hA⟩:∃A,A=(Ex.body kl gv).drop 1:=⟨_,rfl⟩
 have hSe:(Ex.body kl gv++hd).drop 1=A++hd:=by rw[List.drop_append_of_le_length hbp,hA]
 rw[hSe]
 rw[←hA]at ko
 have hAl:A.length≤10000000:=by rw[hA,List.length_drop];omega
 clear hSe hA hbp fl uK
 obtain⟨S,hS⟩:∃S:ByteArray,S=⟨(A++hd).toArray⟩:=⟨_,rfl⟩
 have hSs:S.size=A.length+32:=by rw[hS];show(A++hd).toArray.size=_;simp[bT]
 have hSL:S.extract 0 A.length=⟨A.toArray⟩:=by rw[hS];exact Gw _ _
 rw[←hS]
 obtain⟨N,hN⟩:∃N,N=A.length+32:=⟨_,rfl⟩
 rw[←hN]at hSs
 obtain⟨L,hL⟩:∃L,L=A.length:=⟨_,rfl⟩
 rw[←hL]at hN hSL
 have yw:decide ((N:Int)<32)=false:=decide_eq_false (by omega)
 have BI:IntKind.i64.wrap ((N:Int)-32)=(L:Int):=by
  rw[IntKind.wrap_i64]
  omega
 have hn3:(0:Int)≤(L:Int):=by omega
 have hn4:(L:Int)≤(N:Int):=by omega
 obtain⟨w0,cZ⟩:∃w0,w0=w.alloc (.cells pF 107):=⟨_,rfl⟩
 have bL:Below w.heap.size w w0:=by rw[cZ];exact(Below.refl _ _).alloc (Nat.le_refl _) _
 have mN:w0.heap[w.heap.size]?=some (.cells pF 107 (0,0)):=by rw[cZ];exact heap_alloc_new w _
 have Cu:Hid (Calls Tryz.prog 80 #[.string ⟨A.toArray⟩] w0 fun e w1=>∃rb,e=.returned (.pointer (some ⟨rb,0,none⟩))∧Hid (w0.heap.size≤rb∧bC w1 rb A false∧Below w0.heap.size w0 w1)):=(iY w0 A).mono (fun e w1 ⟨a,b,c⟩=>⟨_,a,Nat.le_refl _,b,c⟩)
 have qE:Hid (∀w1 rb,w0.heap.size≤rb→bC w1 rb A false→Below w0.heap.size w0 w1→Calls Tryz.prog 81 #[.pointer (some ⟨rb,0,none⟩)] w1 fun e w2=>e=.returned (.string ⟨(Rd.text A false).1.toArray⟩)∧Hid (bC w2 rb (Rd.text A false).2.1 (Rd.text A false).2.2∧Below w0.heap.size w0 w2)):=by
  intro w1 rb vX hr hb
  refine(iL w1 rb _ false hr (by omega)).mono ?_
  rintro e' w2 ⟨rfl,q1,q2⟩
  exact⟨rfl,q1,q2.aJ hb hb.size (by simpa using vX)⟩
 have ss:Hid (∀W,Below w0.heap.size w0 W→W.there w.heap.size 0 pF.size∧(W.setCells w.heap.size 0 pF.toList).heap[w.heap.size]?=some (.cells pF 107 (0,0))∧Below w.heap.size w (W.setCells w.heap.size 0 pF.toList)):=by
  intro W hW
  have h1:W.heap[w.heap.size]?=some (.cells pF 107 (0,0)):=by rw[hW.block _ (lt_of_heap mN)];exact mN
  have mw:Below w.heap.size w W:=bL.trans (hW.mono bL.size)
  obtain⟨_,hk⟩:=bX w.heap.size pF.toList 0 _ W h1 (Nat.le_refl 36)
  refine⟨?_,fH h1 rfl rfl,hk.aJ mw mw.size (by simp)⟩
  intro j hj
  rw[cell_of_row _ _ _ _ _ _ h1]
  refine⟨?_,by simp[World.frozen?,h1]⟩
  rw[Nat.zero_add,Array.getElem?_eq_getElem hj]
  rfl
 have Jr:Hid ((Tryz.prog.info? 107).map (·.size)=some pF.size):=(by kernel_rfl:(Tryz.prog.info? 107).map (·.size)=some 36)
 have o8:Hid (pF.all (·.oneCell')=true):=(Array.all_eq_true_iff_forall_mem.2 (fun v hv=>Ih v (by simpa using hv)):pF.all (·.oneCell')=true)
 generalize (⟨A.toArray⟩:ByteArray)=SB at*
 have Y5:Hid (A.length≤10000000):=hAl
 clear hS hN hL hAl bL mN
 rcases ko with⟨I3,hr6⟩ | ⟨l,hl⟩
 · have sM:Hid (∀w2,Calls Tryz.prog 56 #[.string ⟨(Rd.text A false).1.toArray⟩] w2 fun e w'=>∃pl rd n rc at_,e=.returned (.tuple #[.agg #[.string pl,.slice rd n rc],.int .i64 2,.int .i64 at_])∧Hid (Below w2.heap.size w2 w')):=by
    intro w2
    refine(Mx ⟨(Rd.text A false).1.toArray⟩ w2 (Nat.le_trans hr6 (by decide))).mono ?_
    rintro e w' ⟨rd,n,rc,rfl,hb⟩
    rw[I3]
    exact⟨_,_,_,_,_,rfl,hb⟩
   generalize (⟨(Rd.text A false).1.toArray⟩:ByteArray)=T at*
   clear I3 hr6 Y5
   go_enter Tryz.func45,Tryz.ntmps45
   go_upto_region 1 with fail
   have hz:w.alloc (.cells pF 107)=w0:=cZ.symm
   unfold pF pN at hz
   rw[hz]
   clear hz cZ
   go_upto_region 7 with(first | (go_at_call 80;refine Cu.out.mono ?_;rintro e w1 ⟨rb,rfl,H1⟩) | (go_at_call 81;refine(qE.out w1 rb H1.out.1 H1.out.2.1 H1.out.2.2).mono ?_;rintro e w2 ⟨rfl,H2⟩) | (go_at_call 56;refine(sM.out w2).mono ?_;rintro e w3 ⟨pl,rd,n,rc,at_,rfl,H3⟩))
   obtain⟨w4,IG⟩:∃w4,w4=w3.alloc (.cells #[.string pl,.slice rd n rc] 101):=⟨_,rfl⟩
   rw[←IG]
   have kY:Below w0.heap.size w0 w4:=by
    have h1:Below w0.heap.size w0 w3:=H2.out.2.trans (H3.out.mono H2.out.2.size)
    rw[IG]
    exact h1.alloc h1.size _
   obtain⟨eu,OV,ti⟩:=ss.out w4 kY
   have HTH:Hid (w4.there w.heap.size 0 pF.size):=eu
   clear IG H1 H2 H3 Cu qE sM kY ss eu
   go_wp2_with (refine wpList_store_mid rfl 107 (.tmp 2) (.tmp 32) rfl w.heap.size 0 pF rfl rfl HTH.out Jr.out o8.out ?_)
   refine bodyPost_ret (v:=.tuple #[.agg pF,.bool false]) ?_ rfl ⟨rfl,ti⟩
   refine Eq.trans (cQ rfl _ _ _ _ _ _ _ rfl OV Tryz.underlying107 rfl Jr.out) ?_
   rfl
 · have sM:Hid (∀w2,Calls Tryz.prog 56 #[.string ⟨(Rd.text A false).1.toArray⟩] w2 fun e w'=>∃pl rd rc,e=.returned (.tuple #[.agg #[.string pl,.slice rd 0 rc],.int .i64 0,.int .i64 0])∧Hid (Below w2.heap.size w2 w')):=by
    intro w2
    rw[hl]
    exact(Js w2).mono (fun e w' ⟨a,b,d,e1,h⟩=>⟨a,b,d,e1,h⟩)
   have HLL:Hid (l.length≤1000000000):=by
    have h9:=Rd.xT A false
    rw[hl]at h9
    have h8:l.length≤1000000000:=Nat.le_trans h9 (Nat.le_trans Y5.out (by decide))
    exact h8
   rw[hl]at qE
   rw[hl]at sM
   simp only at qE sM
   generalize (⟨([]:List UInt8).toArray⟩:ByteArray)=T at qE sM
   clear hl Y5
   go_enter Tryz.func45,Tryz.ntmps45
   go_upto_region 1 with fail
   have hz:w.alloc (.cells pF 107)=w0:=cZ.symm
   unfold pF pN at hz
   rw[hz]
   clear hz cZ
   go_upto_region 8 with(first | (go_at_call 80;refine Cu.out.mono ?_;rintro e w1 ⟨rb,rfl,H1⟩) | (go_at_call 81;refine(qE.out w1 rb H1.out.1 H1.out.2.1 H1.out.2.2).mono ?_;rintro e w2 ⟨rfl,H2⟩) | (go_at_call 56;refine(sM.out w2).mono ?_;rintro e w3 ⟨pl,rd,rc,rfl,H3⟩))
   obtain⟨w4,IG⟩:∃w4,w4=w3.alloc (.cells #[.string pl,.slice rd 0 rc] 101):=⟨_,rfl⟩
   rw[←IG]
   have kY:Below w0.heap.size w0 w4:=by
    have h1:Below w0.heap.size w0 w3:=H2.out.2.trans (H3.out.mono H2.out.2.size)
    rw[IG]
    exact h1.alloc h1.size _
   have Lh:Below w2.heap.size w2 w4:=by
    rw[IG]
    exact H3.out.alloc H3.out.size _
   have uh:w4.heap[w3.heap.size]?=some (.cells #[.string pl,.slice rd 0 rc] 101 (0,0)):=by rw[IG];exact heap_alloc_new w3 _
   have x0:w4.cell? ⟨w3.heap.size,0,none⟩=some (.string pl):=by rw[cell_of_row _ _ 0 _ _ _ uh];rfl
   have x1:w4.cell? ⟨w3.heap.size,1,none⟩=some (.slice rd 0 rc):=by rw[cell_of_row _ _ 1 _ _ _ uh];rfl
   have abV:=lt_of_heap uh
   have B9:bC w4 rb l true:=by
    have h9:=H2.out.1
    unfold bC at h9 ⊢
    rw[Lh.block _ (lt_of_heap h9)]
    exact h9
   have tq:Hid (Calls Tryz.prog 59 #[.agg #[.string pl,.slice rd 0 rc]] w4 fun e w5=>e=.returned (.slice none 0 0)∧Hid (Below w4.heap.size w4 w5)):=(JS w4 pl rd rc).mono (fun e w' ⟨a,b⟩=>⟨a,b⟩)
   have TQ:Hid (∀w5,Below w4.heap.size w4 w5→Calls Tryz.prog 82 #[.pointer (some ⟨rb,0,none⟩),.slice none 0 0] w5 fun e w6=>∃gm,e=.returned (.tuple #[.map (some gm),.bool false])∧w6.there w.heap.size 0 pF.size∧(w6.setCells w.heap.size 0 pF.toList).heap[w.heap.size]?=some (.cells pF 107 (0,0))∧Hid (Below w.heap.size w (w6.setCells w.heap.size 0 pF.toList))):=by
    intro w5 yJ
    have TT:bC w5 rb l true:=by
     unfold bC at B9 ⊢
     rw[yJ.block _ (lt_of_heap B9)]
     exact B9
    refine(yj w0 w5 rb l (kY.trans (yJ.mono kY.size)) H1.out.1 TT HLL.out none 0 (World.ownsRow_nil _ _ _ _)).mono ?_
    rintro e w6 ⟨gm,rfl,hb⟩
    obtain⟨q1,q2,q3⟩:=ss.out w6 hb
    exact⟨gm,rfl,q1,q2,q3⟩
   clear IG kY Lh uh B9 H1 H2 H3 Cu qE sM ss HLL
   generalize w3.heap.size=pb at*
   go_wp2_with (first | (go_at_call 59;refine tq.out.mono ?_;rintro e w5 ⟨rfl,H5⟩) | (go_at_call 82;refine(TQ.out w5 H5.out).mono ?_;rintro e w6 ⟨gm,rfl,hth,OV,ti⟩;clear TQ tq H5) | (refine wpList_store_mid rfl 107 (.tmp 2) (.tmp 42) rfl w.heap.size 0 pF rfl rfl hth Jr.out o8.out ?_))
   refine bodyPost_ret (v:=.tuple #[.agg pF,.bool false]) ?_ rfl ⟨rfl,ti.out⟩
   refine Eq.trans (cQ rfl _ _ _ _ _ _ _ rfl OV Tryz.underlying107 rfl Jr.out) ?_
   rfl
theorem Fo(w:World)(kl:List Ax.ay)(gv:Nat→Bool)(hd:List UInt8)(bT:hd.length=32):
 Calls Tryz.prog 24 #[.string ⟨((Ex.body kl gv++hd).drop 1).toArray⟩] w fun e w'=>e=.returned (.tuple #[.pointer none,.int .i64 8])∧Below w.heap.size w w':=by
 have sM:Hid (Calls Tryz.prog 45 #[.string ⟨((Ex.body kl gv++hd).drop 1).toArray⟩] w fun e w1=>e=.returned (.tuple #[.agg pF,.bool false])∧(∀Z:Array Value,Z.size=36→(storeCells ⟨w1.heap.size,0,none⟩ pF.toList).run Tryz.prog (w1.alloc (.cells Z 107))=.ok () ((w1.alloc (.cells Z 107)).setCells w1.heap.size 0 pF.toList))∧(∀Z:Array Value,Z.size=36→Hid (Below w.heap.size w ((w1.alloc (.cells Z 107)).setCells w1.heap.size 0 pF.toList)))):=by
  refine(Fa w kl gv hd bT).mono ?_
  rintro e w1 ⟨rfl,hb⟩
  refine⟨rfl,fun Z hZ=>cN (heap_alloc_new _ _) hZ wY Ih,fun Z hZ=> ?_⟩
  obtain⟨_,hk⟩:=bX w1.heap.size pF.toList 0 _ _ (heap_alloc_new w1 (.cells Z 107)) (by rw[Array.length_toList,wY,hZ];exact Nat.le_refl 36)
  have h2:=hb.alloc hb.size (.cells Z 107)
  exact hk.aJ h2 h2.size (by simpa using hb.size)
 have cE:=wY
 generalize (⟨((Ex.body kl gv++hd).drop 1).toArray⟩:ByteArray)=S at*
 go_enter Tryz.func24,Tryz.ntmps24
 go_wp2_with (go_at_call 45;refine sM.out.mono ?_;rintro e w1 ⟨rfl,eu,H1⟩)
 go_ret2
 exact⟨rfl,(H1 _ rfl).out⟩
theorem FL(w:World)(kl:List Ax.ay)(gv:Nat→Bool)(hd:List UInt8)(bT:hd.length=32)(log:ByteArray):
 Calls Tryz.prog 30 #[.string ⟨((Ex.body kl gv++hd).drop 1).toArray⟩,.string log] w fun e w'=>e=.returned (.tuple #[.pointer none,.int .i64 0,.int .i64 8])∧Below w.heap.size w w':=by
 have HI:=Fo w kl gv hd bT
 generalize (⟨((Ex.body kl gv++hd).drop 1).toArray⟩:ByteArray)=S at*
 go_enter Tryz.func30,Tryz.ntmps30
 go_wp2_with (go_at_call 24;refine HI.mono ?_;rintro e w1 ⟨rfl,H1⟩)
 go_ret3
 exact⟨rfl,H1⟩
end
end Go.Proofs.YtdmicblafmhflaaGreatDoor
