/- Replay, walked. -/
import Derived.Test.YtdmicblafmhflaaGreatDoorC49
import Derived.Test.YtdmicblafmhflaaGreatDoorC01
set_option linter.unusedSimpArgs false
set_option linter.unusedVariables false
set_option maxHeartbeats 4000000
set_option maxRecDepth 100000
namespace Go.Proofs.YtdmicblafmhflaaGreatDoor
section
open Go.RowKit Go.Maps
namespace Rp
theorem Qp(K:Nat→Int)(hd:List UInt8){tl:List (List Int×List Int)}{j k:Nat}(hj:j<k)(hk:k≤tl.length)(t:List UInt8):∃r,(cD K hd (tl.take k)++t).drop (cD K hd (tl.take j)).length=ku K (pX K hd (tl.take j)) (tl[j]'(by omega))++r:=by
 have e:tl.take k=tl.take j++(tl[j]'(by omega)::(tl.take k).drop (j+1)):=by
  have h1:=(List.take_append_drop j (tl.take k)).symm
  rw[List.take_take,Nat.min_eq_left (by omega),List.drop_eq_getElem_cons (by rw[List.length_take];omega)]at h1
  rw[List.getElem_take]at h1
  exact h1
 rw[e,rL,List.append_assoc,List.drop_left]
 exact⟨_,by rw[cD,List.append_assoc]⟩
end Rp
structure Fe(K:Nat→Int)(hd:List UInt8)(tl:List (List Int×List Int))(k:Nat)(t:List UInt8):Prop where
 le:k≤tl.length
 R1:t=[]∨∃(h:k<tl.length) (r:List UInt8),r≠[]∧t≠[]∧t++r=Rp.ku K (Rp.pX K hd (tl.take k)) tl[k]
theorem xo(K:Nat→Int)(w:World)(kl:List Ax.ay)(gv:Nat→Bool)(hg:ji gv)(hd:List UInt8)(bS:hd.length=32)(hK:Dg.uw w K)(hU:eW w)(tl:List (List Int×List Int))(k:Nat)(t:List UInt8)(hs:tl.length≤1048576)(hT:Fe K hd tl k t):
 Calls Tryz.prog 30 #[.string ⟨(Ex.body kl gv++hd).toArray⟩,.string ⟨(Rp.cD K hd (tl.take k)++t).toArray⟩] w fun e w'=>∃eg,e=.returned (.tuple #[.pointer (some ⟨eg,0,none⟩),.int .i64 ((Rp.cD K hd (tl.take k)).length:Nat),.int .i64 (if t=[]then 0 else 9)])∧xQ K w w' eg kl gv hd (tl.take k):=by
 obtain⟨L,hLd⟩:∃L,L=Rp.cD K hd (tl.take k)++t:=⟨_,rfl⟩
 have xB:t.length≤640:=by
  rcases hT.R1 with rfl | ⟨h,r,_,_,e⟩
  · simp
  · have:=(Rp.vQ K (Rp.pX K hd (tl.take k)) tl[k]).1
    rw[←e,List.length_append]at this
    omega
 have yD:L.length≤1000000000:=by
  have h1:=Rp.vE K (tl.take k) hd
  have h2:(tl.take k).length≤tl.length:=by rw[List.length_take];omega
  rw[hLd,List.length_append]
  omega
 have cE:(⟨L.toArray⟩:ByteArray).size=L.length:=rfl
 have HIM:Hid (Calls Tryz.prog 24 #[.string ⟨(Ex.body kl gv++hd).toArray⟩] w fun e w1=>∃eg,e=.returned (.tuple #[.pointer (some ⟨eg,0,none⟩),.int .i64 0])∧Hid (xQ K w w1 eg kl gv hd (tl.take 0))):=by
  refine(G2 w kl gv hg hd bS hU).mono ?_
  rintro e w' ⟨eg,rfl,q1,q2,q3⟩
  exact⟨eg,rfl,q1,⟨_,q2⟩,q3⟩
 have Nn:Hid (∀W,Below w.heap.size w W→Dg.uw W K∧eW W):=fun W hW=>⟨hK.below hW,Utf8Tabs_below hU hW⟩
 have Te:Hid (Fe K hd tl k t):=hT
 have Th:Hid (L=Rp.cD K hd (tl.take k)++t):=hLd
 have Ym:Hid (∀p,(⟨L.toArray⟩:ByteArray).extract p L.length=⟨(L.drop p).toArray⟩):=fun p=>sa L p
 have CB:=hT.le
 rw[←hLd]
 generalize Yv:(⟨L.toArray⟩:ByteArray)=S at*
 generalize (⟨(Ex.body kl gv++hd).toArray⟩:ByteArray)=E at*
 clear hLd hT hK hU hg Yv
 go_enter Tryz.func30,Tryz.ntmps30
 go_wp2_with (go_at_call 24;refine HIM.out.mono ?_;rintro e w1 ⟨eg,rfl,H1⟩)
 go_loopw [9] (fun i wr=>∃(j:Nat),j≤k∧i=.int .i64 ((Rp.cD K hd (tl.take j)).length:Nat)∧xQ K w wr eg kl gv hd (tl.take j)) (fun i _=>L.length-(intOf i).toNat)
 case atStart=>exact⟨0,Nat.zero_le _,rfl,H1.out⟩
 case round=>
  obtain⟨j,hj,rfl,hR⟩:=hrel
  have HR:Hid (xQ K w wr eg kl gv hd (tl.take j)):=hR
  have Wi:=Nn.out wr hR.aZ
  clear H1 HIM hR
  by_cases Wz:j<k
  · obtain⟨r,hr⟩:=Rp.Qp K hd Wz Te.out.le t
    rw[←Th.out]at hr
    have Wx:j<tl.length:=by omega
    have hls:=congrArg List.length hr
    rw[List.length_drop,List.length_append]at hls
    have h33:=(Rp.vQ K (Rp.pX K hd (tl.take j)) tl[j]).2
    have HSN:Hid (tl.take (j+1)=tl.take j++[tl[j]]):=ko tl Wx
    have hex:=Ym.out (Rp.cD K hd (tl.take j)).length
    rw[hr]at hex
    have sH:Hid (Calls Tryz.prog 46 #[.pointer (some ⟨eg,0,none⟩),.string ⟨(Rp.ku K (Rp.pX K hd (tl.take j)) tl[j]++r).toArray⟩] wr fun e w2=>e=.returned (.tuple #[.int .i64 ((Rp.ku K (Rp.pX K hd (tl.take j)) tl[j]).length:Nat),.bool true])∧Hid (xQ K w w2 eg kl gv hd (tl.take (j+1)))):=by
     rw[HSN.out]
     refine(HR.out.whole (by rw[List.length_take];omega) Wi.1 Wi.2 tl[j] r ?_).mono (fun e w' ⟨a,b⟩=>⟨a,b⟩)
     rw[List.length_append]
     omega
    have HPN:Hid ((Rp.cD K hd (tl.take (j+1))).length=(Rp.cD K hd (tl.take j)).length+(Rp.ku K (Rp.pX K hd (tl.take j)) tl[j]).length):=by
     have e1:(Rp.cD K hd (tl.take (j+1))).length=(Rp.cD K hd (tl.take j)).length+(Rp.ku K (Rp.pX K hd (tl.take j)) tl[j]).length:=by rw[HSN.out,Rp.oY,List.length_append]
     exact e1
    generalize (⟨(Rp.ku K (Rp.pX K hd (tl.take j)) tl[j]++r).toArray⟩:ByteArray)=X at hex sH
    generalize (Rp.ku K (Rp.pX K hd (tl.take j)) tl[j]).length=q at*
    generalize (Rp.cD K hd (tl.take j)).length=p at*
    have LI:decide ((p:Int)<(L.length:Int))=true:=decide_eq_true (by omega)
    have b1:(0:Int)≤(p:Int):=by omega
    have b2:(p:Int)≤(L.length:Int):=by omega
    clear hr Wi Te Th Nn Ym
    go_wp2_with (go_at_call 46;refine sH.out.mono ?_;rintro e w2 ⟨rfl,H2⟩)
    go_roundw
    case rel=>exact⟨j+1,Wz,by rw[HPN.out];go_num,H2.out⟩
    case measure=>simp[intOf];omega
  · have V4:j=k:=by omega
    subst V4
    by_cases wV:t=[]
    · have HLN:Hid (L.length=(Rp.cD K hd (tl.take j)).length):=by
       have e1:L.length=(Rp.cD K hd (tl.take j)).length:=by rw[Th.out,wV,List.append_nil]
       exact e1
      have HTE:Hid (t=[]):=wV
      have HP:Hid (∃p,p=(Rp.cD K hd (tl.take j)).length):=(⟨_,rfl⟩:∃p,p=(Rp.cD K hd (tl.take j)).length)
      obtain⟨p,hp⟩:=HP.out
      have HPE:Hid (p=(Rp.cD K hd (tl.take j)).length):=hp
      rw[←hp]at HLN
      rw[←hp]
      clear HP hp
      have LI:decide ((p:Int)<(L.length:Int))=false:=decide_eq_false (by have:=HLN.out;omega)
      have GY:¬p<L.length:=by have:=HLN.out;omega
      clear Te Th Ym Nn Wi wV
      go_wp2_with fail
      go_ret3
      refine⟨eg, ?_,HR.out⟩
      rw[←HPE.out]
      rfl
    · obtain⟨Wx,r,hr,_,er⟩:=Te.out.R1.resolve_left wV
      have hex:=Ym.out (Rp.cD K hd (tl.take j)).length
      have Ke:L.drop (Rp.cD K hd (tl.take j)).length=t:=by rw[Th.out,List.drop_left]
      rw[Ke]at hex
      have XV:L.length=(Rp.cD K hd (tl.take j)).length+t.length:=by rw[Th.out,List.length_append]
      have htp:=List.length_pos_iff.2 wV
      have sH:Hid (Calls Tryz.prog 46 #[.pointer (some ⟨eg,0,none⟩),.string ⟨t.toArray⟩] wr fun e w2=>e=.returned (.tuple #[.int .i64 0,.bool false])∧Hid (xQ K w w2 eg kl gv hd (tl.take j))):=(HR.out.R1 Wi.1 tl[j] hr er).mono (fun e w' ⟨a,b⟩=>⟨a,b⟩)
      generalize (⟨t.toArray⟩:ByteArray)=X at hex sH
      obtain⟨p,hp⟩:∃p,p=(Rp.cD K hd (tl.take j)).length:=⟨_,rfl⟩
      have HPE:Hid (p=(Rp.cD K hd (tl.take j)).length):=hp
      rw[←hp]at hex XV
      rw[←hp]
      clear hp
      have LI:decide ((p:Int)<(L.length:Int))=true:=decide_eq_true (by omega)
      have b1:(0:Int)≤(p:Int):=by omega
      have b2:(p:Int)≤(L.length:Int):=by omega
      have kY:p<L.length:=by omega
      clear Te Th Ym Nn Wi Ke er hr XV htp xB wV
      go_wp2_with (go_at_call 46;refine sH.out.mono ?_;rintro e w2 ⟨rfl,H2⟩)
      go_ret3
      refine⟨eg, ?_,H2.out⟩
      rw[←HPE.out]
      rfl
end
/- An export without its first byte: what its first text is. -/
section
open Go.RowKit Go.Maps
namespace Ax
theorem lP(s:ByteArray):∀f p b acc,∃m,aW s f p b acc=acc++m
 | 0,p,b,acc=>⟨_,rfl⟩
 | f+1,p,b,acc=>by
  unfold aW
  split
  · split
    · exact lP s f _ _ _
    · simp only
      split
      · exact⟨_,rfl⟩
      · obtain⟨m,hm⟩:=lP s f (p+(Utf8.decode s p).2) (p+(aJ (s.extract p s.size) (Utf8.decode s p).1).2) (acc++[⟨(aJ (s.extract p s.size) (Utf8.decode s p).1).1,p,s.extract p (p+(aJ (s.extract p s.size) (Utf8.decode s p).1).2)⟩])
        rw[hm,List.append_assoc]
        exact⟨_,rfl⟩
  · exact⟨_,rfl⟩
theorem Cb{t:List UInt8}(h:t.length<600):(read ⟨(40::t).toArray⟩).2.1=2:=by
 obtain⟨s,hs⟩:∃s:ByteArray,s=⟨(40::t).toArray⟩:=⟨_,rfl⟩
 have hz:s.size=t.length+1:=by rw[hs];rfl
 have hb:byte s 0=40:=by rw[hs];rfl
 have hd:Utf8.decode s 0=(40,1):=by
  have:=j8 s 0 (by omega) (by omega)
  rw[hb]at this
  exact this
 have h1:∃m,split s=⟨4,0,s.extract 0 1⟩::m:=by
  unfold split
  rw[hz,nH s t.length 0 0 [] (by omega) (by rw[hd];decide) 4 1 (by rw[hd];rfl) (by decide)]
  obtain⟨m,hm⟩:=lP s t.length (0+(Utf8.decode s 0).2) (0+1) ([]++[⟨4,0,s.extract 0 (0+1)⟩])
  exact⟨m,hm⟩
 obtain⟨m,hm⟩:=h1
 have hk:(split s)[0]?=some ⟨4,0,s.extract 0 1⟩:=by rw[hm];rfl
 have hp:bU (split s) (split s).length 0 []=(none,0):=by
  have hl:(split s).length=m.length+1:=by rw[hm];rfl
  rw[hl]
  exact jt (by rw[cP hk];simp) (mQ (BU hk (by simp)))
 rw[←hs,NZ (by omega) hp hk]
theorem B0(kl:List ay):∃r,(au kl).data.toList=110::40::88::41::r:=by
 have e:(bp (gR kl)).flatMap (fun x=>x.2.data.toList)=(bp ls).flatMap (fun x=>x.2.data.toList)++(bp ((kl.take 6).map J6)).flatMap (fun x=>x.2.data.toList):=by
  unfold gR bp
  rw[List.flatMap_append,List.flatMap_append]
 show ∃r,((bp (gR kl)).flatMap fun x=>x.2.data.toList)=_
 rw[e]
 exact⟨_,rfl⟩
theorem GK:(read ⟨[110].toArray⟩).2.1=2∧(read ⟨[110,40].toArray⟩).2.1=2∧(read ⟨[110,40,88].toArray⟩).2.1=2∧(read ⟨[110,40,88,41].toArray⟩).2.1=2:=by
 refine⟨?_, ?_, ?_, ?_⟩<;>decide+kernel
theorem vI{t u:List UInt8}(e:t=u)(h:(read ⟨u.toArray⟩).2.1=2)(hl:u.length≤600):(read ⟨t.toArray⟩).2.1=2∧t.length≤600:=by
 subst e
 exact⟨h,hl⟩
end Ax
namespace Rd
theorem Mm(kl:List Ax.ay)(rest:List UInt8):(Ax.read ⟨(text ((Rc.aC (Ax.au kl)++rest).drop 1) false).1.toArray⟩).2.1=2∧(text ((Rc.aC (Ax.au kl)++rest).drop 1) false).1.length≤600∨∃l,text ((Rc.aC (Ax.au kl)++rest).drop 1) false=([],l,true):=by
 obtain⟨r,hr⟩:=Ax.B0 kl
 have hz:=Ax.jo kl
 have hlz:(Ax.au kl).data.toList.length=(Ax.au kl).size:=by simp
 unfold Rc.aC
 by_cases h:(Ax.au kl).size≤127
 · rw[Rc.kR h,hr]
   have e:(([UInt8.ofNat (Ax.au kl).size]++110::40::88::41::r)++rest).drop 1=Rc.aQ 110++(40::(88::41::r++rest)):=by
    rw[Rc.kR (by decide)]
    rfl
   rw[e]
   unfold text
   rw[eO (by decide) (by decide)]
   simp only
   by_cases hl:(40::(88::41::r++rest)).length<110
   · rw[if_pos hl]
     exact .inr ⟨_,rfl⟩
   · rw[if_neg hl]
     refine .inl ⟨?_, ?_⟩
     · exact Ax.Cb (t:=(88::41::r++rest).take 109) (by rw[List.length_take];omega)
     · rw[List.length_take];omega
 · rw[Rc.rq h]
   obtain⟨q,hq⟩:∃q,q=(Ax.au kl).size/128:=⟨_,rfl⟩
   have h1:1≤q:=by omega
   have h4:q≤4:=by omega
   have e:((UInt8.ofNat ((Ax.au kl).size%128+128)::Rc.aQ ((Ax.au kl).size/128)++(Ax.au kl).data.toList)++rest).drop 1=Rc.aQ q++(110::40::88::41::(r++rest)):=by
    rw[hr,←hq]
    simp
   rw[e]
   have ht:(text (Rc.aQ q++(110::40::88::41::(r++rest))) false).1=(110::40::88::41::(r++rest)).take q:=by
    unfold text
    rw[eO (by omega) (by omega)]
    simp only
    rw[if_neg (by simp;omega)]
   obtain⟨s1,s2,s3,s4⟩:=Ax.GK
   have hc:q=1∨q=2∨q=3∨q=4:=by omega
   refine .inl ?_
   rcases hc with rfl | rfl | rfl | rfl
   · exact Ax.vI (u:=[110]) (ht.trans rfl) s1 (by decide)
   · exact Ax.vI (u:=[110,40]) (ht.trans rfl) s2 (by decide)
   · exact Ax.vI (u:=[110,40,88]) (ht.trans rfl) s3 (by decide)
   · exact Ax.vI (u:=[110,40,88,41]) (ht.trans rfl) s4 (by decide)
end Rd
end
/- Preds of no rules: slices.SortFunc of nothing. -/
section
open Go.RowKit Go.Maps
theorem PY(w:World):Calls Tryz.prog 242 #[.int .u64 0] w fun e w'=>e=.returned (.int .i64 0)∧w'=w:=by
 go_enter Tryz.func242,Tryz.ntmps242
 go_wp2_with fail
 go_ret
 exact⟨by kernel_rfl,rfl⟩
theorem Xo(w:World):Calls Tryz.prog 191 #[.int .u64 0] w fun e w'=>e=.returned (.int .i64 0)∧w'=w:=by
 have h:=PY
 go_enter Tryz.func191,Tryz.ntmps191
 go_wp2_with (go_at_call 242;refine(h _).mono ?_;rintro e w1 ⟨rfl,rfl⟩)
 go_ret
 exact⟨rfl,rfl⟩
theorem Dl(w:World)(f:Value):Calls Tryz.prog 233 #[.slice none 0 0,.int .i64 0,.int .i64 0,f] w fun e w'=>e=.returned (.tuple #[])∧w'=w:=by
 go_enter Tryz.func233,Tryz.ntmps233
 go_wp2_with fail
 go_loopw [8] (fun i wr=>i=.int .i64 1∧wr=w) (fun _ _=>0)
 case atStart=>exact⟨rfl,rfl⟩
 case round=>
  obtain⟨rfl,rfl⟩:=hrel
  go_wp2_with fail
  go_end0
  exact⟨rfl,rfl⟩
theorem Rn(w:World)(f:Value):Calls Tryz.prog 190 #[.slice none 0 0,.int .i64 0,.int .i64 0,.int .i64 0,f] w fun e w'=>e=.returned (.tuple #[])∧w'=w:=by
 have h:=Dl
 go_enter Tryz.func190,Tryz.ntmps190
 go_wp2_with fail
 go_loopw [1,2] (fun a b wr=>a=.int .i64 0∧b=.int .i64 0∧wr=w) (fun _ _ _=>0)
 case atStart=>exact⟨rfl,rfl,rfl⟩
 case round=>
  obtain⟨rfl,rfl,rfl⟩:=hrel
  go_wp2_with (go_at_call 233;refine(h _ _).mono ?_;rintro e w1 ⟨rfl,rfl⟩)
  exact bodyPost_ret (results_none rfl _ _ _) rfl ⟨rfl,rfl⟩
theorem N3(w:World)(f:Value):Calls Tryz.prog 113 #[.slice none 0 0,f] w fun e w'=>e=.returned (.tuple #[])∧w'=w:=by
 have h:=Rn
 have h2:=Xo
 go_enter Tryz.func113,Tryz.ntmps113
 go_wp2_with (first | (go_at_call 191;refine(h2 _).mono ?_;rintro e w1 ⟨rfl,rfl⟩) | (go_at_call 190;refine(h _ _).mono ?_;rintro e w1 ⟨rfl,rfl⟩))
 go_end0
 exact⟨rfl,rfl⟩
theorem Jl(w:World)(pl:ByteArray)(rd:Option Addr)(rc:Nat):
 Calls Tryz.prog 59 #[.agg #[.string pl,.slice rd 0 rc]] w fun e w'=>e=.returned (.slice none 0 0)∧Below w.heap.size w w':=by
 have bL:Below w.heap.size w (w.alloc (.cells #[.string pl,.slice rd 0 rc] 101)):=(Below.refl _ _).alloc (Nat.le_refl _) _
 have Ni:=N3
 have tr:Hid (∀W,Calls Tryz.prog 116 #[.slice none 0 0] W fun e w'=>e=.returned (.slice none 0 0)∧Hid (Below W.heap.size W w')):=by
  intro W
  refine(uO W.heap.size W none 0 [] (World.ownsRow_nil _ _ _ _) (by decide)).mono ?_
  rintro e w' ⟨rfl,_,q⟩
  exact⟨rfl,q.aK (Below.refl _ _) (Nat.le_refl _) (by simp[Value.ownBlock])⟩
 go_enter Tryz.func59,Tryz.ntmps59
 go_wp2_with fail
 go_loopw [3,11] (fun v i wr=>v=.slice none 0 0∧i=.int .i64 0∧Hid (Below w.heap.size w wr)) (fun _ _ _=>0)
 case atStart=>exact⟨rfl,rfl,bL⟩
 case round=>
  obtain⟨rfl,rfl,hb⟩:=hrel
  clear bL
  go_wp2_with (first | (go_at_call 113;refine(Ni _ _).mono ?_;rintro e w2 ⟨rfl,rfl⟩) | (go_at_call 116;refine(tr.out _).mono ?_;rintro e w3 ⟨rfl,h3⟩))
  go_ret
  exact⟨rfl,hb.out.trans (h3.out.mono hb.out.size)⟩
end
/- state.readGiven of a reader that has failed, no predicates. -/
section
open Go.RowKit Go.Maps
theorem Rd.Gu(l:List UInt8):Rd.names l true=([],l,true):=by
 simp[Rd.names,Rd.number,Rd.texts]
theorem xJ(wS w:World)(rb:Nat)(l:List UInt8)(hb:Below wS.heap.size wS w)(yh:wS.heap.size≤rb)(hr:bC w rb l true)(hl:l.length≤1000000000)(qd:Option Addr)(qc:Nat)(hq:w.ownsRow 0 112 2 (.slice qd 0 qc) 0 []):
 Calls Tryz.prog 82 #[.pointer (some ⟨rb,0,none⟩),.slice qd 0 qc] w fun e w'=>∃gm,e=.returned (.tuple #[.map (some gm),.bool false])∧Below wS.heap.size wS w':=by
 have ga:=p6 w rb l true hr hl
 rw[Rd.Gu]at ga
 simp only[List.length_nil]at ga
 have yM:Hid (Calls Tryz.prog 140 #[.pointer (some ⟨rb,0,none⟩)] w fun e w1=>∃g,e=.returned (.slice (some ⟨g,0,none⟩) 0 0)∧Hid (bC w1 rb l true∧Below wS.heap.size wS w1∧w1.ownsRow 0 112 2 (.slice qd 0 qc) 0 [])):=by
  refine ga.mono ?_
  rintro e w1 ⟨g,rfl,q1,q2,q3⟩
  unfold bC at hr
  exact⟨g,rfl,q2,q3.aK hb hb.size (by simpa using yh),(kT.pU q3 hr (bad:=[251]) (by simp)).row hq (by simp)⟩
 have VU:Hid (∀w1,Below wS.heap.size wS w1→bC w1 rb l true→w1.ownsRow 0 112 2 (.slice qd 0 qc) 0 []→Calls Tryz.prog 58 #[.slice qd 0 qc] w1 fun e w2=>∃gm,e=.returned (.map (some gm))∧Hid (bC w2 rb l true∧Below wS.heap.size wS w2)):=by
  intro w1 a8 E7 hq1
  refine(lK w1 0 qd qc [] hq1 (by decide) (fun p hp=>by cases hp)).mono ?_
  rintro e w2 ⟨T,rfl,hT⟩
  refine⟨_,rfl, ?_,a8.trans (hT.aZ.mono a8.size)⟩
  unfold bC at E7 ⊢
  rw[hT.aZ.block _ (lt_of_heap E7)]
  exact E7
 have Pu:Hid (∀w2,bC w2 rb l true→Calls Tryz.prog 142 #[.pointer (some ⟨rb,0,none⟩)] w2 fun e w'=>e=.returned (.bool true)∧w'=w2):=fun w2 h=>fH w2 rb l true h
 clear ga hr hq hb
 go_enter Tryz.func82,Tryz.ntmps82
 go_wp2_with (first | (go_at_call 140;refine yM.out.mono ?_;rintro e w1 ⟨gn,rfl,H1⟩) | (go_at_call 58;refine(VU.out w1 H1.out.2.1 H1.out.1 H1.out.2.2).mono ?_;rintro e w2 ⟨gm,rfl,H2⟩))
 go_loopw [20] (fun i wr=>i=.int .i64 0∧wr=w2) (fun _ _=>0)
 case atStart=>exact⟨rfl,rfl⟩
 case round=>
  obtain⟨rfl,rfl⟩:=hrel
  go_wp2_with (go_at_call 142;refine(Pu.out _ H2.out.1).mono ?_;rintro e w3 ⟨rfl,rfl⟩)
  go_ret2
  exact⟨gm,rfl,H2.out.2⟩
end
/- state.Read, Import, Replay of an export without its first byte. -/
section
open Go.RowKit Go.Maps
def pF:Array Value:=pZ (.string ⟨#[]⟩) (.slice none 0 0) (.map none) (.map none)
theorem xr:pF.size=36:=rfl
theorem IQ:∀v,v∈pF.toList→v.oneCell'=true:=by
 intro v hv
 simp[pF,pZ]at hv
 rcases hv with rfl | rfl | rfl | rfl<;>rfl
theorem JT(w:World):Calls Tryz.prog 56 #[.string ⟨#[]⟩] w fun e w'=>∃pl rd rc,e=.returned (.tuple #[.agg #[.string pl,.slice rd 0 rc],.int .i64 0,.int .i64 0])∧Below w.heap.size w w':=by
 refine(He ⟨#[]⟩ w (by decide) [] 0 (rfl:Ax.bU _ _ _ _=_) (⟨by decide,fun r h=>by cases h⟩:_∧_) (rfl:Ax.cz _ _ _=_) (rfl:Ax.dE _ _=_) (rfl:Ax.b8 _=_)).mono ?_
 rintro e w' ⟨rd,rc,l,rfl,hl,_,hb⟩
 have:l=[]:=by simpa using hl
 subst this
 exact⟨_,_,_,rfl,hb⟩
theorem Gc(w:World)(kl:List Ax.ay)(gv:Nat→Bool)(hd:List UInt8)(bS:hd.length=32):
 Calls Tryz.prog 45 #[.string ⟨((Ex.body kl gv++hd).drop 1).toArray⟩] w fun e w'=>e=.returned (.tuple #[.agg pF,.bool false])∧Below w.heap.size w w':=by
 obtain⟨rest,um⟩:∃rest,Ex.body kl gv=Rc.aC (Ax.au kl)++rest:=⟨_,by unfold Ex.body;simp only[List.append_assoc];rfl⟩
 have hbp:0<(Ex.body kl gv).length:=by
  have:=Rd.xu (Ax.au kl).size
  rw[um]
  unfold Rc.aC
  simp only[List.length_append]
  omega
 have fm:=vN kl gv
 have hcut:=Rd.Mm kl rest
 rw[←um]at hcut
 obtain⟨A,hA⟩:∃A,A=(Ex.body kl gv).drop 1:=⟨_,rfl⟩
 have hSe:(Ex.body kl gv++hd).drop 1=A++hd:=by rw[List.drop_append_of_le_length hbp,hA]
 rw[hSe]
 rw[←hA]at hcut
 have hAl:A.length≤10000000:=by rw[hA,List.length_drop];omega
 clear hSe hA hbp fm um
 obtain⟨S,hS⟩:∃S:ByteArray,S=⟨(A++hd).toArray⟩:=⟨_,rfl⟩
 have hSs:S.size=A.length+32:=by rw[hS];show(A++hd).toArray.size=_;simp[bS]
 have hSL:S.extract 0 A.length=⟨A.toArray⟩:=by rw[hS];exact Ft _ _
 rw[←hS]
 obtain⟨N,hN⟩:∃N,N=A.length+32:=⟨_,rfl⟩
 rw[←hN]at hSs
 obtain⟨L,hL⟩:∃L,L=A.length:=⟨_,rfl⟩
 rw[←hL]at hN hSL
 have xG:decide ((N:Int)<32)=false:=decide_eq_false (by omega)
 have Bt:IntKind.i64.wrap ((N:Int)-32)=(L:Int):=by
  rw[IntKind.wrap_i64]
  omega
 have hn3:(0:Int)≤(L:Int):=by omega
 have hn4:(L:Int)≤(N:Int):=by omega
 obtain⟨w0,cZ⟩:∃w0,w0=w.alloc (.cells pF 107):=⟨_,rfl⟩
 have bL:Below w.heap.size w w0:=by rw[cZ];exact(Below.refl _ _).alloc (Nat.le_refl _) _
 have mN:w0.heap[w.heap.size]?=some (.cells pF 107 (0,0)):=by rw[cZ];exact heap_alloc_new w _
 have Cy:Hid (Calls Tryz.prog 80 #[.string ⟨A.toArray⟩] w0 fun e w1=>∃rb,e=.returned (.pointer (some ⟨rb,0,none⟩))∧Hid (w0.heap.size≤rb∧bC w1 rb A false∧Below w0.heap.size w0 w1)):=(iZ w0 A).mono (fun e w1 ⟨a,b,c⟩=>⟨_,a,Nat.le_refl _,b,c⟩)
 have qf:Hid (∀w1 rb,w0.heap.size≤rb→bC w1 rb A false→Below w0.heap.size w0 w1→Calls Tryz.prog 81 #[.pointer (some ⟨rb,0,none⟩)] w1 fun e w2=>e=.returned (.string ⟨(Rd.text A false).1.toArray⟩)∧Hid (bC w2 rb (Rd.text A false).2.1 (Rd.text A false).2.2∧Below w0.heap.size w0 w2)):=by
  intro w1 rb yh hr hb
  refine(iS w1 rb _ false hr (by omega)).mono ?_
  rintro e' w2 ⟨rfl,q1,q2⟩
  exact⟨rfl,q1,q2.aK hb hb.size (by simpa using yh)⟩
 have rh:Hid (∀W,Below w0.heap.size w0 W→W.there w.heap.size 0 pF.size∧(W.setCells w.heap.size 0 pF.toList).heap[w.heap.size]?=some (.cells pF 107 (0,0))∧Below w.heap.size w (W.setCells w.heap.size 0 pF.toList)):=by
  intro W hW
  have h1:W.heap[w.heap.size]?=some (.cells pF 107 (0,0)):=by rw[hW.block _ (lt_of_heap mN)];exact mN
  have mF:Below w.heap.size w W:=bL.trans (hW.mono bL.size)
  obtain⟨_,hk⟩:=bX w.heap.size pF.toList 0 _ W h1 (Nat.le_refl 36)
  refine⟨?_,fI h1 rfl rfl,hk.aK mF mF.size (by simp)⟩
  intro j hj
  rw[cell_of_row _ _ _ _ _ _ h1]
  refine⟨?_,by simp[World.frozen?,h1]⟩
  rw[Nat.zero_add,Array.getElem?_eq_getElem hj]
  rfl
 have JX:Hid ((Tryz.prog.info? 107).map (·.size)=some pF.size):=(by kernel_rfl:(Tryz.prog.info? 107).map (·.size)=some 36)
 have pg:Hid (pF.all (·.oneCell')=true):=(Array.all_eq_true_iff_forall_mem.2 (fun v hv=>IQ v (by simpa using hv)):pF.all (·.oneCell')=true)
 generalize (⟨A.toArray⟩:ByteArray)=SB at*
 have Xs:Hid (A.length≤10000000):=hAl
 clear hS hN hL hAl bL mN
 rcases hcut with⟨KK,hr6⟩ | ⟨l,hl⟩
 · have sH:Hid (∀w2,Calls Tryz.prog 56 #[.string ⟨(Rd.text A false).1.toArray⟩] w2 fun e w'=>∃pl rd n rc at_,e=.returned (.tuple #[.agg #[.string pl,.slice rd n rc],.int .i64 2,.int .i64 at_])∧Hid (Below w2.heap.size w2 w')):=by
    intro w2
    refine(L5 ⟨(Rd.text A false).1.toArray⟩ w2 (Nat.le_trans hr6 (by decide))).mono ?_
    rintro e w' ⟨rd,n,rc,rfl,hb⟩
    rw[KK]
    exact⟨_,_,_,_,_,rfl,hb⟩
   generalize (⟨(Rd.text A false).1.toArray⟩:ByteArray)=T at*
   clear KK hr6 Xs
   go_enter Tryz.func45,Tryz.ntmps45
   go_upto_region 1 with fail
   have hz:w.alloc (.cells pF 107)=w0:=cZ.symm
   unfold pF pZ at hz
   rw[hz]
   clear hz cZ
   go_upto_region 7 with(first | (go_at_call 80;refine Cy.out.mono ?_;rintro e w1 ⟨rb,rfl,H1⟩) | (go_at_call 81;refine(qf.out w1 rb H1.out.1 H1.out.2.1 H1.out.2.2).mono ?_;rintro e w2 ⟨rfl,H2⟩) | (go_at_call 56;refine(sH.out w2).mono ?_;rintro e w3 ⟨pl,rd,n,rc,at_,rfl,H3⟩))
   obtain⟨w4,II⟩:∃w4,w4=w3.alloc (.cells #[.string pl,.slice rd n rc] 101):=⟨_,rfl⟩
   rw[←II]
   have kW:Below w0.heap.size w0 w4:=by
    have h1:Below w0.heap.size w0 w3:=H2.out.2.trans (H3.out.mono H2.out.2.size)
    rw[II]
    exact h1.alloc h1.size _
   obtain⟨ev,Pk,tp⟩:=rh.out w4 kW
   have HTH:Hid (w4.there w.heap.size 0 pF.size):=ev
   clear II H1 H2 H3 Cy qf sH kW rh ev
   go_wp2_with (refine wpList_store_mid rfl 107 (.tmp 2) (.tmp 32) rfl w.heap.size 0 pF rfl rfl HTH.out JX.out pg.out ?_)
   refine bodyPost_ret (v:=.tuple #[.agg pF,.bool false]) ?_ rfl ⟨rfl,tp⟩
   refine Eq.trans (cQ rfl _ _ _ _ _ _ _ rfl Pk Tryz.underlying107 rfl JX.out) ?_
   rfl
 · have sH:Hid (∀w2,Calls Tryz.prog 56 #[.string ⟨(Rd.text A false).1.toArray⟩] w2 fun e w'=>∃pl rd rc,e=.returned (.tuple #[.agg #[.string pl,.slice rd 0 rc],.int .i64 0,.int .i64 0])∧Hid (Below w2.heap.size w2 w')):=by
    intro w2
    rw[hl]
    exact(JT w2).mono (fun e w' ⟨a,b,d,e1,h⟩=>⟨a,b,d,e1,h⟩)
   have HLL:Hid (l.length≤1000000000):=by
    have h9:=Rd.yy A false
    rw[hl]at h9
    have h8:l.length≤1000000000:=Nat.le_trans h9 (Nat.le_trans Xs.out (by decide))
    exact h8
   rw[hl]at qf
   rw[hl]at sH
   simp only at qf sH
   generalize (⟨([]:List UInt8).toArray⟩:ByteArray)=T at qf sH
   clear hl Xs
   go_enter Tryz.func45,Tryz.ntmps45
   go_upto_region 1 with fail
   have hz:w.alloc (.cells pF 107)=w0:=cZ.symm
   unfold pF pZ at hz
   rw[hz]
   clear hz cZ
   go_upto_region 8 with(first | (go_at_call 80;refine Cy.out.mono ?_;rintro e w1 ⟨rb,rfl,H1⟩) | (go_at_call 81;refine(qf.out w1 rb H1.out.1 H1.out.2.1 H1.out.2.2).mono ?_;rintro e w2 ⟨rfl,H2⟩) | (go_at_call 56;refine(sH.out w2).mono ?_;rintro e w3 ⟨pl,rd,rc,rfl,H3⟩))
   obtain⟨w4,II⟩:∃w4,w4=w3.alloc (.cells #[.string pl,.slice rd 0 rc] 101):=⟨_,rfl⟩
   rw[←II]
   have kW:Below w0.heap.size w0 w4:=by
    have h1:Below w0.heap.size w0 w3:=H2.out.2.trans (H3.out.mono H2.out.2.size)
    rw[II]
    exact h1.alloc h1.size _
   have K9:Below w2.heap.size w2 w4:=by
    rw[II]
    exact H3.out.alloc H3.out.size _
   have ue:w4.heap[w3.heap.size]?=some (.cells #[.string pl,.slice rd 0 rc] 101 (0,0)):=by rw[II];exact heap_alloc_new w3 _
   have x0:w4.cell? ⟨w3.heap.size,0,none⟩=some (.string pl):=by rw[cell_of_row _ _ 0 _ _ _ ue];rfl
   have x1:w4.cell? ⟨w3.heap.size,1,none⟩=some (.slice rd 0 rc):=by rw[cell_of_row _ _ 1 _ _ _ ue];rfl
   have abh:=lt_of_heap ue
   have BF:bC w4 rb l true:=by
    have h9:=H2.out.1
    unfold bC at h9 ⊢
    rw[K9.block _ (lt_of_heap h9)]
    exact h9
   have tS:Hid (Calls Tryz.prog 59 #[.agg #[.string pl,.slice rd 0 rc]] w4 fun e w5=>e=.returned (.slice none 0 0)∧Hid (Below w4.heap.size w4 w5)):=(Jl w4 pl rd rc).mono (fun e w' ⟨a,b⟩=>⟨a,b⟩)
   have U4:Hid (∀w5,Below w4.heap.size w4 w5→Calls Tryz.prog 82 #[.pointer (some ⟨rb,0,none⟩),.slice none 0 0] w5 fun e w6=>∃gm,e=.returned (.tuple #[.map (some gm),.bool false])∧w6.there w.heap.size 0 pF.size∧(w6.setCells w.heap.size 0 pF.toList).heap[w.heap.size]?=some (.cells pF 107 (0,0))∧Hid (Below w.heap.size w (w6.setCells w.heap.size 0 pF.toList))):=by
    intro w5 zA
    have Uq:bC w5 rb l true:=by
     unfold bC at BF ⊢
     rw[zA.block _ (lt_of_heap BF)]
     exact BF
    refine(xJ w0 w5 rb l (kW.trans (zA.mono kW.size)) H1.out.1 Uq HLL.out none 0 (World.ownsRow_nil _ _ _ _)).mono ?_
    rintro e w6 ⟨gm,rfl,hb⟩
    obtain⟨q1,q2,q3⟩:=rh.out w6 hb
    exact⟨gm,rfl,q1,q2,q3⟩
   clear II kW K9 ue BF H1 H2 H3 Cy qf sH rh HLL
   generalize w3.heap.size=pb at*
   go_wp2_with (first | (go_at_call 59;refine tS.out.mono ?_;rintro e w5 ⟨rfl,H5⟩) | (go_at_call 82;refine(U4.out w5 H5.out).mono ?_;rintro e w6 ⟨gm,rfl,hth,Pk,tp⟩;clear U4 tS H5) | (refine wpList_store_mid rfl 107 (.tmp 2) (.tmp 42) rfl w.heap.size 0 pF rfl rfl hth JX.out pg.out ?_))
   refine bodyPost_ret (v:=.tuple #[.agg pF,.bool false]) ?_ rfl ⟨rfl,tp.out⟩
   refine Eq.trans (cQ rfl _ _ _ _ _ _ _ rfl Pk Tryz.underlying107 rfl JX.out) ?_
   rfl
theorem Fm(w:World)(kl:List Ax.ay)(gv:Nat→Bool)(hd:List UInt8)(bS:hd.length=32):
 Calls Tryz.prog 24 #[.string ⟨((Ex.body kl gv++hd).drop 1).toArray⟩] w fun e w'=>e=.returned (.tuple #[.pointer none,.int .i64 8])∧Below w.heap.size w w':=by
 have sH:Hid (Calls Tryz.prog 45 #[.string ⟨((Ex.body kl gv++hd).drop 1).toArray⟩] w fun e w1=>e=.returned (.tuple #[.agg pF,.bool false])∧(∀Z:Array Value,Z.size=36→(storeCells ⟨w1.heap.size,0,none⟩ pF.toList).run Tryz.prog (w1.alloc (.cells Z 107))=.ok () ((w1.alloc (.cells Z 107)).setCells w1.heap.size 0 pF.toList))∧(∀Z:Array Value,Z.size=36→Hid (Below w.heap.size w ((w1.alloc (.cells Z 107)).setCells w1.heap.size 0 pF.toList)))):=by
  refine(Gc w kl gv hd bS).mono ?_
  rintro e w1 ⟨rfl,hb⟩
  refine⟨rfl,fun Z hZ=>cN (heap_alloc_new _ _) hZ xr IQ,fun Z hZ=> ?_⟩
  obtain⟨_,hk⟩:=bX w1.heap.size pF.toList 0 _ _ (heap_alloc_new w1 (.cells Z 107)) (by rw[Array.length_toList,xr,hZ];exact Nat.le_refl 36)
  have h2:=hb.alloc hb.size (.cells Z 107)
  exact hk.aK h2 h2.size (by simpa using hb.size)
 have cE:=xr
 generalize (⟨((Ex.body kl gv++hd).drop 1).toArray⟩:ByteArray)=S at*
 go_enter Tryz.func24,Tryz.ntmps24
 go_wp2_with (go_at_call 45;refine sH.out.mono ?_;rintro e w1 ⟨rfl,ev,H1⟩)
 go_ret2
 exact⟨rfl,(H1 _ rfl).out⟩
theorem FD(w:World)(kl:List Ax.ay)(gv:Nat→Bool)(hd:List UInt8)(bS:hd.length=32)(log:ByteArray):
 Calls Tryz.prog 30 #[.string ⟨((Ex.body kl gv++hd).drop 1).toArray⟩,.string log] w fun e w'=>e=.returned (.tuple #[.pointer none,.int .i64 0,.int .i64 8])∧Below w.heap.size w w':=by
 have HI:=Fm w kl gv hd bS
 generalize (⟨((Ex.body kl gv++hd).drop 1).toArray⟩:ByteArray)=S at*
 go_enter Tryz.func30,Tryz.ntmps30
 go_wp2_with (go_at_call 24;refine HI.mono ?_;rintro e w1 ⟨rfl,H1⟩)
 go_ret3
 exact⟨rfl,H1⟩
end
end Go.Proofs.YtdmicblafmhflaaGreatDoor
