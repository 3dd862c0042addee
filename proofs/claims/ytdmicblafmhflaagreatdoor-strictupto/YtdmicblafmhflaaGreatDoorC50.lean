/- An export without its last byte is refused. -/
import Derived.Test.YtdmicblafmhflaaGreatDoorC49
import Derived.Test.YtdmicblafmhflaaGreatDoorC46
set_option linter.unusedSimpArgs false
set_option linter.unusedVariables false
set_option maxHeartbeats 400000
set_option maxRecDepth 100000
namespace Go.Proofs.YtdmicblafmhflaaGreatDoor
section
open Go.RowKit Go.Maps
namespace Rd
theorem kU{l:List UInt8}{f:Bool}{m:Int}(h:(number l f m).2.2=false)(r:List UInt8):f=false∧number (l++r) f m=((number l f m).1,(number l f m).2.1++r,false):=by
 have hle:=yt l
 unfold number at h ⊢
 by_cases hc:f=true∨(first l).2=0∨m<((first l).1:Int)
 · rw[if_pos hc]at h
   cases h
 · have hf:f=false:=by cases f<;>simp_all
   have h0:(first l).2≠0:=fun e=>hc (.inr (.inl e))
   have e:first (l++r)=first l:=go_app 4 0 l 0 r h0
   rw[if_neg hc,e,if_neg hc,List.drop_append_of_le_length hle]
   exact⟨hf,rfl⟩
theorem Ku{l:List UInt8}{f:Bool}(h:(text l f).2.2=false)(r:List UInt8):f=false∧text (l++r) f=((text l f).1,(text l f).2.1++r,false):=by
 cases f with
 | false=>exact⟨rfl,On h r⟩
 | true=>
  exfalso
  have e:number l true 9223372036854775807=(0,l,true):=by unfold number;rw[if_pos (.inl rfl)]
  unfold text at h
  rw[e]at h
  simp at h
theorem A0:∀(k:Nat) {l:List UInt8} {f:Bool},(texts k l f).2.2=false→∀r,f=false∧texts k (l++r) f=((texts k l f).1,(texts k l f).2.1++r,false)
 | 0,l,f,h,r=>by
  simp only[texts]at h ⊢
  subst h
  exact⟨rfl,rfl⟩
 | k+1,l,f,h,r=>by
  simp only[texts]at h ⊢
  obtain⟨h1,h2⟩:=Ku h r
  obtain⟨h3,h4⟩:=A0 k h1 r
  rw[h1]at h2
  rw[h4]
  simp only
  rw[h2,h1]
  exact⟨h3,rfl⟩
theorem Kp{l:List UInt8}{f:Bool}(h:(names l f).2.2=false)(r:List UInt8):f=false∧names (l++r) f=((names l f).1,(names l f).2.1++r,false):=by
 unfold names at h ⊢
 obtain⟨h1,h2⟩:=A0 _ h r
 obtain⟨h3,h4⟩:=kU h1 r
 rw[h4]
 simp only
 rw[h1]at h2
 rw[h2,h1]
 exact⟨h3,rfl⟩
theorem Am(N:List ByteArray):∀(k:Nat) {l:List UInt8} {f:Bool},(bz N k l f).2.2=false→∀r,f=false∧bz N k (l++r) f=((bz N k l f).1,(bz N k l f).2.1++r,false)
 | 0,l,f,h,r=>by
  simp only[bz]at h ⊢
  subst h
  exact⟨rfl,rfl⟩
 | k+1,l,f,h,r=>by
  simp only[bz]at h ⊢
  obtain⟨h1,h2⟩:=kU h r
  obtain⟨h3,h4⟩:=Am N k h1 r
  rw[h1]at h2 h
  rw[h4]
  simp only
  rw[h2,h1,h]
  exact⟨h3,rfl⟩
theorem JN{N:List ByteArray}{pp:Nat}{l:List UInt8}{f:Bool}(h:(iL N pp l f).2.2.2=false)(r:List UInt8):f=false∧iL N pp (l++r) f=((iL N pp l f).1,(iL N pp l f).2.1,(iL N pp l f).2.2.1++r,false):=by
 unfold iL at h ⊢
 simp only at h ⊢
 obtain⟨h1,h2⟩:=Am N pp h r
 obtain⟨h3,h4⟩:=kU h1 r
 obtain⟨h5,h6⟩:=kU h3 r
 rw[h6]
 simp only
 rw[h3]at h4 h1 h2
 rw[h4]
 simp only
 rw[h1]at h2
 rw[h2,h3,h1]
 exact⟨h5,rfl⟩
theorem xS{N:List ByteArray}{pn:ByteArray}{pp:Nat}:∀(k:Nat) {l l':List UInt8} {f:Bool} {R R':dz},fl N pn pp k l f R=some (R',l',false)→∀r,f=false∧fl N pn pp k (l++r) f R=some (R',l'++r,false)
 | 0,l,l',f,R,R',h,r=>by
  simp only[fl,Option.some.injEq,Prod.mk.injEq]at h ⊢
  obtain⟨rfl,rfl,rfl⟩:=h
  exact⟨rfl,rfl,rfl,rfl⟩
 | k+1,l,l',f,R,R',h,r=>by
  unfold fl at h ⊢
  split at h
  · rename_i ha
    have h0:=(xS k h r)
    obtain⟨h1,h2⟩:=JN h0.1 r
    rw[h2]
    simp only
    rw[if_pos ha]
    refine⟨h1, ?_⟩
    have h3:=h0.2
    rw[h0.1]at h3
    exact h3
  · cases h
theorem yj{N:List ByteArray}:∀(Q:List Pd.Pr) {l l':List UInt8} {f:Bool} {R R':dz},eQ N Q l f R=some (R',l',false)→∀r,f=false∧eQ N Q (l++r) f R=some (R',l'++r,false)
 | [],l,l',f,R,R',h,r=>by
  simp only[eQ,Option.some.injEq,Prod.mk.injEq]at h ⊢
  obtain⟨rfl,rfl,rfl⟩:=h
  exact⟨rfl,rfl,rfl,rfl⟩
 | p::Q,l,l',f,R,R',h,r=>by
  unfold eQ at h ⊢
  obtain⟨x,hx,h⟩:=Option.bind_eq_some_iff.1 h
  obtain⟨R1,l1,f1⟩:=x
  simp only at h
  obtain⟨h1,h2⟩:=yj Q h r
  subst h1
  obtain⟨h3,h4⟩:=xS _ hx r
  obtain⟨h5,h6⟩:=kU h3 r
  rw[h6]
  simp only
  rw[h3]at h4
  rw[h4]
  exact⟨h5,h2⟩
theorem Hf{Q:List Pd.Pr}{l l':List UInt8}{f:Bool}{R:dz}(h:dJ Q l f=some (R,l',false))(r:List UInt8):dJ Q (l++r) f=some (R,l'++r,false):=by
 unfold dJ at h ⊢
 obtain⟨h1,h2⟩:=yj Q h r
 obtain⟨h3,h4⟩:=Kp h1 r
 rw[h4]
 simp only
 rw[h1]at h2
 exact h2
end Rd
theorem CB.less{kl:List Ax.aM}{gv:Nat→Bool}{D:Gs.St}(h:CB kl gv D)(hd:List UInt8)(hh:hd.length=32):Rd.state ((Gs.body D++hd).take ((Gs.body D++hd).length-1))=none:=by
 obtain⟨w,gm,G,s,hG,hR,hI,hD⟩:=h.at_
 obtain⟨he,hrk,og⟩:=eI kl
 have cB:=h.ok
 have hrt:Gs.Rt gQ (rowsOf G) s D:=by
  rw[hD]at cB ⊢
  exact Mp hG hR hI cB
 have P0:D.pl=Ax.aH kl:=by rw[hD];rfl
 have hDQ:D.Q=gQ:=by rw[hD];rfl
 obtain⟨rest,EX⟩:∃rest,rest=Rc.aV (Gs.iJ D).length++((Gs.iJ D).flatMap Rc.aL++((gQ.flatMap fun p=>Gs.facts D p.1)++[])):=⟨_,rfl⟩
 have cL:rest≠[]:=by
  intro e
  have h1:=Rd.D1 (Gs.iJ D).length
  have h2:=congrArg List.length e
  rw[EX,List.length_append]at h2
  simp only[List.length_nil]at h2
  omega
 obtain⟨r0,b,hrb⟩:∃r0 b,rest=r0++[b]:=⟨rest.dropLast,rest.getLast cL,(List.dropLast_concat_getLast cL).symm⟩
 have ss:Gs.body D=Rc.aL (Ax.aH kl)++r0++[b]:=by
  rw[List.append_assoc,←hrb,EX]
  unfold Gs.body
  rw[P0,hDQ]
  simp only[List.append_assoc,List.append_nil]
 obtain⟨hi,c,hhc⟩:∃hi c,hd=hi++[c]:=by
  have hn:hd≠[]:=by rintro rfl;simp at hh
  exact⟨hd.dropLast,hd.getLast hn,(List.dropLast_concat_getLast hn).symm⟩
 have WS:(b::hi).length=32:=by
  rw[hhc]at hh
  simpa using hh
 have hs:(Gs.body D++hd).take ((Gs.body D++hd).length-1)=(Rc.aL (Ax.aH kl)++r0)++(b::hi):=by
  have e1:Gs.body D++hd=((Rc.aL (Ax.aH kl)++r0)++(b::hi))++[c]:=by
   rw[ss,hhc]
   simp
  rw[e1]
  generalize Rc.aL (Ax.aH kl)++r0++b::hi=X
  rw[List.length_append,List.length_singleton,Nat.add_sub_cancel,List.take_left]
 rw[hs]
 have vh:Rd.text (Rc.aL (Ax.aH kl)++r0) false=((Ax.aH kl).data.toList,r0,false):=Rd.sY (Nat.lt_of_le_of_lt (Ax.kz kl) (by decide)) _
 have W7:Ax.aH kl=⟨(Rd.text (Rc.aL (Ax.aH kl)++r0) false).1.toArray⟩:=by rw[vh]
 have l6:Rd.cD (Ax.bw (Ax.aH kl))=gQ:=Rd.xw tG (fun p=>(nz p).trans (fu he p).symm)
 refine Rd.uW rfl WS W7 (by rw[og]) ?_
 rw[l6,vh]
 simp only
 cases hgn:Rd.dJ gQ r0 false with
 | none=>exact .inl rfl
 | some x=>
  obtain⟨R1,l1,f1⟩:=x
  cases f1 with
  | true=>exact .inr ⟨R1,l1,rfl⟩
  | false=>
   exfalso
   have h1:=Rd.Hf hgn [b]
   rw[←hrb,EX,hrt.given []]at h1
   simp at h1
end
/- Replayed: the shop behind a script, with its log; the lists of the walk's own. -/
section
open Go.RowKit Go.Maps
theorem Eu(c:Int)(n:Nat)(w:World)(hc:b8 c)(hn:0<n)(FK:n≤10000000000):Calls Tryz.prog 27 #[.int .i64 c,.int .i64 n] w fun e w'=>e=.returned (.int .i64 (Ax.a8 c n))∧w'=w:=by
 obtain⟨h1,h2⟩:=hc
 by_cases h:c<0
 · have hb:decide (c<0)=true:=by simpa using h
   have e:=sE (c:=c) (n:=n) (d:= -(c+1)) (by rw[if_pos h]) (by omega) hn
   go_enter Tryz.func27,Tryz.ntmps27
   go_wp2
   go_ret
   exact⟨by rw[←e];rfl,rfl⟩
 · have hb:decide (c<0)=false:=by simpa using h
   have e:=sE (c:=c) (n:=n) (d:=c) (by rw[if_neg h]) (by omega) hn
   go_enter Tryz.func27,Tryz.ntmps27
   go_wp2
   go_ret
   exact⟨by rw[←e];rfl,rfl⟩
end
/- Strict, walked. -/
section
open Go.RowKit Go.Maps
theorem DS(W:World)(g:Nat)(b:UInt8)(h:W.cell? ⟨g,0,none⟩=some (.int .u8 (b.toNat:Int)))(c:Nat):(convert 63 9 (.slice (some ⟨g,0,none⟩) 1 c)).run Tryz.prog W=.ok (.string ⟨#[b]⟩) W:=by
 refine run_convert_bytes_back W 63 9 5 ⟨g,0,none⟩ _ [b] Tryz.underlying63 Tryz.underlying5 Tryz.underlying9 ?_
 intro j hj
 have XM:j=0:=by simpa using hj
 subst XM
 simpa [Addr.add]using h
theorem Ib(s:List UInt8)(i:Nat)(b:UInt8):(⟨s.toArray⟩:ByteArray).extract 0 i++⟨#[b]⟩++(⟨s.toArray⟩:ByteArray).extract (i+1) s.length=⟨(s.take i++[b]++s.drop (i+1)).toArray⟩:=by
 rw[xL,xl]
 apply ByteArray.ext
 simp
theorem MZ(s:List UInt8)(b:UInt8):(⟨s.toArray⟩:ByteArray)++⟨#[b]⟩=⟨(s++[b]).toArray⟩:=by
 apply ByteArray.ext
 simp
theorem DT(B hd:List UInt8)(i:Nat)(b:UInt8)(hi:i<(B++hd).length)(h:B.length≤i):∃AY,AY.length=hd.length∧(B++hd).take i++[b]++(B++hd).drop (i+1)=B++AY:=by
 rw[List.length_append]at hi
 refine⟨hd.take (i-B.length)++[b]++hd.drop (i+1-B.length), ?_, ?_⟩
 · simp
   omega
 · rw[List.take_append,List.drop_append,List.take_of_length_le h,List.drop_of_length_le (show B.length≤i+1 by omega)]
   simp
theorem DP(K:Nat→Int)(w:World)(ad:Option Addr)(m c:Nat)(kl:List Ax.aM)(hR:rZ w ad m c kl)(sd:Option Addr)(sn sc:Nat)(sl:List (List Int×List Int))(hS:F8 w sd sn sc sl)(hs:sl.length≤1048576)(av bv:Int)(xq:b8 av)(hbv:b8 bv)(raw:List UInt8)(ZT:raw.length≤100000000)(hK:Dg.C4 w K)(hU:fw w):
 Calls Tryz.prog 9 #[.slice ad m c,.slice sd sn sc,.int .i64 av,.int .i64 bv,.string ⟨raw.toArray⟩] w fun e w'=>e=.returned (.bool true)∧Below w.heap.size w w':=by
 obtain⟨X,hX⟩:∃X,X=jC sl:=⟨_,rfl⟩
 have HGX:Hid (nu X):=by rw[hX];exact MU sl
 have HRX:Hid (Calls Tryz.prog 22 #[.slice ad m c,.slice sd sn sc] w fun e w1=>∃sb eg,e=.returned (.pointer (some ⟨sb,0,none⟩))∧w1.cell? ⟨sb,0,none⟩=some (.pointer (some ⟨eg,0,none⟩))∧sb<w1.heap.size∧Hid (vV w.heap.size w1 sb eg (.slice ad (min m 6) c) kl X X sl.length∧Below w.heap.size w w1)):=by
  rw[hX]
  refine(Rl K w ad m c kl hR sd sn sc sl hS (by omega) hK hU).mono ?_
  rintro e w' ⟨a,b,rfl,q1,q2⟩
  exact⟨a,b,rfl,q1.wj.cells.1,lt_of_heap q1.wj,q1,q2⟩
 have WG:Hid (∀W,Below w.heap.size w W→fw W):=fun W hW=>Utf8Tabs_below hU hW
 have HAV:Hid (b8 av∧b8 bv):=⟨xq,hbv⟩
 have Wr:Hid (∀W,Below w.heap.size w W→Calls Tryz.prog 28 #[.string ⟨raw.toArray⟩,.bool false] W fun e w'=>e=.returned (.bool true)∧Hid (Below w.heap.size w w')):=by
  intro W hW
  exact(xo W raw ZT (WG.out W hW) false (fun h=>by cases h)).mono (fun e w' ⟨a,b⟩=>⟨a,hW.trans (b.mono hW.size)⟩)
 generalize (⟨raw.toArray⟩:ByteArray)=RW at*
 clear hR hS hK hU hX xq hbv ZT hs
 go_enter Tryz.func9,Tryz.ntmps9
 go_upto_region 4 with(go_at_call 22;refine HRX.out.mono ?_;rintro e w1 ⟨sx,ex,rfl,s0,s1,H1⟩)
 obtain⟨D,hd,Wv,cN,Zy⟩:=JY H1.out.1.Wp
 have fE:=Gs.RJ Wv.ok
 obtain⟨s,Ks⟩:∃s,s=Gs.body D++hd:=⟨_,rfl⟩
 obtain⟨n,hn⟩:∃n,n=s.length:=⟨_,rfl⟩
 have vU:n=(Gs.body D).length+32:=by rw[hn,Ks,List.length_append,cN]
 obtain⟨S,Tv⟩:∃S:ByteArray,S=⟨s.toArray⟩:=⟨_,rfl⟩
 have hSs:S.size=n:=by rw[Tv,hn];rfl
 obtain⟨i,hi⟩:∃i,i=Ax.a8 av n:=⟨_,rfl⟩
 have dQ:i<n:=by rw[hi];exact Ax.ef av n (by omega)
 obtain⟨q,hq⟩:∃q,q=Ax.a8 bv 255:=⟨_,rfl⟩
 have afv:q<255:=by rw[hq];exact Ax.ef bv 255 (by decide)
 have hil:i<s.length:=by omega
 obtain⟨b,hb⟩:∃b:UInt8,b=s[i]+UInt8.ofNat (1+q):=⟨_,rfl⟩
 obtain⟨s2,vI⟩:∃s2,s2=s.take i++[b]++s.drop (i+1):=⟨_,rfl⟩
 have acf:s2.length=n:=by rw[vI,hn];simp;omega
 have hSi:i<S.size:=by omega
 have vK:IntKind.u8.wrap (((S[i]'hSi).toNat:Int)+IntKind.u8.wrap (IntKind.i64.wrap (1+(q:Int))))=(b.toNat:Int):=by
  have e1:(S[i]'hSi)=s[i]:=by subst Tv;rfl
  have e3:IntKind.i64.wrap (1+(q:Int))=1+(q:Int):=by
   rw[IntKind.wrap_i64]
   omega
  have e2:(UInt8.ofNat (1+q)).toNat=(1+q)%256:=by simp
  have e4:1+q<256:=by omega
  rw[e1,hb,UInt8.toNat_add,e3,IntKind.wrap_u8,IntKind.wrap_u8,e2]
  clear hb e1 e3
  generalize (s[i]).toNat=z
  have e5:((1:Int)+(q:Int))%256=1+(q:Int):=Int.emod_eq_of_lt (by omega) (by omega)
  rw[Nat.mod_eq_of_lt e4,e5]
  omega
 obtain⟨SA,hSA⟩:∃SA,SA=S.extract 0 i:=⟨_,rfl⟩
 obtain⟨SC,hSC⟩:∃SC,SC=S.extract (i+1) n:=⟨_,rfl⟩
 have hA1:S.extract 0 i=SA:=hSA.symm
 have OI:S.extract (i+1) n=SC:=hSC.symm
 have RF:SA.size=i:=by rw[hSA,ByteArray.size_extract];omega
 have hC2:SC.size=n-(i+1):=by rw[hSC,ByteArray.size_extract];omega
 have WL:(SA++⟨#[b]⟩).size=i+1:=by rw[ByteArray.size_append,RF];rfl
 have WC:SA.size+(⟨#[b]⟩:ByteArray).size≤9223372036854775807:=by rw[RF];show i+1≤_;omega
 have M9:(SA++⟨#[b]⟩).size+SC.size≤9223372036854775807:=by rw[WL,hC2];omega
 have Zu:SA.size+1≤9223372036854775807:=by rw[RF];omega
 have hm4:SA.size+1+SC.size≤9223372036854775807:=by rw[RF,hC2];omega
 have Cl:n≤10000032:=by omega
 obtain⟨T2,Y5⟩:∃T2:ByteArray,T2=⟨s2.toArray⟩:=⟨_,rfl⟩
 have abe:SA++⟨#[b]⟩++SC=T2:=by
  rw[Y5,vI,hSA,hSC,Tv,hn]
  exact Ib s i b
 obtain⟨mu,hmu⟩:∃mu:Bool,mu=decide ((n:Int)-32≤(i:Int)):=⟨_,rfl⟩
 have WK:mu=true→Rd.state s2≠none:=by
  intro hm
  rw[hmu]at hm
  have M9:=of_decide_eq_true hm
  have Zu:(Gs.body D).length≤i:=by omega
  obtain⟨AY,Ww,e'⟩:=DT (Gs.body D) hd i b (by rw[←Ks];omega) Zu
  rw[vI,Ks,e',Wv.taken HGX.out AY (by rw[Ww,cN])]
  exact fun h=>by cases h
 have vo:Hid (∀W,Below w.heap.size w W→Calls Tryz.prog 28 #[.string T2,.bool mu] W fun e w'=>e=.returned (.bool true)∧Hid (Below w.heap.size w w')):=by
  intro W hW
  rw[Y5]
  exact(xo W s2 (by omega) (WG.out W hW) mu WK).mono (fun e w' ⟨a,b⟩=>⟨a,hW.trans (b.mono hW.size)⟩)
 obtain⟨SL,Xo⟩:∃SL,SL=S.extract 0 (n-1):=⟨_,rfl⟩
 have sM:S.extract 0 (n-1)=SL:=Xo.symm
 obtain⟨SM,hSM⟩:∃SM,SM=S++⟨#[120]⟩:=⟨_,rfl⟩
 have hM1:S++⟨#[120]⟩=SM:=hSM.symm
 have qg:S.size+1≤9223372036854775807:=by omega
 have hM3:S.size+(⟨#[120]⟩:ByteArray).size≤9223372036854775807:=by show S.size+1≤_;omega
 have HIL:Hid (∀W,Below w.heap.size w W→Calls Tryz.prog 24 #[.string SL] W fun e w'=>e=.returned (.tuple #[.pointer none,.int .i64 8])∧Hid (Below w.heap.size w w')):=by
  intro W hW
  have e:SL=⟨((Gs.body D++hd).take ((Gs.body D++hd).length-1)).toArray⟩:=by
   rw[Xo,Tv,hn,Ks]
   exact xL _ _
  rw[e]
  refine(nJ W _ (by rw[List.length_take];rw[←Ks];omega) (WG.out W hW)).mono ?_
  rintro e w' ⟨hb,hh⟩
  rcases hh with⟨rfl,_⟩ | ⟨eg,D',AY,_,h9,_⟩
  · exact⟨rfl,hW.trans (hb.mono hW.size)⟩
  · rw[Wv.less hd cN]at h9
    cases h9
 have HIM:Hid (∀W,Below w.heap.size w W→Calls Tryz.prog 24 #[.string SM] W fun e w'=>e=.returned (.tuple #[.pointer none,.int .i64 8])∧Hid (Below w.heap.size w w')):=by
  intro W hW
  have e:SM=⟨(Gs.body D++hd++[120]).toArray⟩:=by
   rw[hSM,Tv,Ks]
   exact MZ _ _
  rw[e]
  refine(nJ W _ (by rw[←Ks];simp;omega) (WG.out W hW)).mono ?_
  rintro e w' ⟨hb,hh⟩
  rcases hh with⟨rfl,_⟩ | ⟨eg,D',AY,_,h9,_⟩
  · exact⟨rfl,hW.trans (hb.mono hW.size)⟩
  · rw[Wv.more HGX.out hd cN]at h9
    cases h9
 have HIS:Hid (∀W,Below w.heap.size w W→Calls Tryz.prog 24 #[.string S] W fun e w'=>∃eg,e=.returned (.tuple #[.pointer (some ⟨eg,0,none⟩),.int .i64 0])∧Hid (Below w.heap.size w w')):=by
  intro W hW
  rw[Tv,Ks]
  refine(nJ W _ (by rw[←Ks];omega) (WG.out W hW)).mono ?_
  rintro e w' ⟨hb,hh⟩
  rcases hh with⟨_,h9⟩ | ⟨eg,D',AY,rfl,_⟩
  · rw[Wv.taken HGX.out hd cN]at h9
    cases h9
  · exact⟨eg,rfl,hW.trans (hb.mono hW.size)⟩
 clear hSA hSC RF hC2 WL Y5 WK Xo hSM
 have ad0:∀W0:World,(convert 63 9 (.slice (some ⟨W0.heap.size,0,none⟩) 1 1)).run Tryz.prog (W0.alloc (.cells #[.int .u8 (b.toNat:Int)] 5))=.ok (.string ⟨#[b]⟩) (W0.alloc (.cells #[.int .u8 (b.toNat:Int)] 5)):=fun W0=>DS _ _ b (by rw[cell_of_row _ _ _ _ _ _ (heap_alloc_new W0 _)];rfl) 1
 have aa1:∀W0:World,(convert 63 9 (.slice (some ⟨W0.heap.size,0,none⟩) 1 1)).run Tryz.prog (W0.alloc (.cells #[.int .u8 (b.toNat:Int)] 5)).drew=.ok (.string ⟨#[b]⟩) (W0.alloc (.cells #[.int .u8 (b.toNat:Int)] 5)).drew:=fun W0=>DS _ _ b (by show(W0.alloc _).cell? _=_;rw[cell_of_row _ _ _ _ _ _ (heap_alloc_new W0 _)];rfl) 1
 have WM:Hid (∀W,Calls Tryz.prog 27 #[.int .i64 av,.int .i64 (n:Nat)] W fun e w'=>e=.returned (.int .i64 (i:Nat))∧W=w'):=by
  intro W
  rw[hi]
  exact(Eu av n W HAV.out.1 (by omega) (by omega)).mono (fun e w' ⟨a,b⟩=>⟨a,b.symm⟩)
 have Vt:Hid (∀W,Calls Tryz.prog 27 #[.int .i64 bv,.int .i64 255] W fun e w'=>e=.returned (.int .i64 (q:Nat))∧W=w'):=by
  intro W
  rw[hq]
  exact(Eu bv 255 W HAV.out.2 (by omega) (by omega)).mono (fun e w' ⟨a,b⟩=>⟨a,b.symm⟩)
 have HE1:Hid (Calls Tryz.prog 23 #[.pointer (some ⟨ex,0,none⟩)] w1 fun e w2=>e=.returned (.string S)∧Hid (Below w.heap.size w w2)):=by
  rw[Tv,Ks]
  exact Zy.mono (fun e w2 ⟨a,b⟩=>⟨a,H1.out.2.trans (b.mono H1.out.2.size)⟩)
 have ahb:decide ((n:Int)<32)=false:=decide_eq_false (by omega)
 have hng:¬n<32:=by omega
 clear Zy HRX Wv Ks Tv hi hq hb vI acf hil fE vU hn WG cN HGX HAV
 go_upto_region 8 with(first | (go_at_call 23;refine HE1.out.mono ?_;rintro e w2 ⟨rfl,H2⟩) | (go_at_call 27;refine(WM.out _).mono ?_;rintro e w3 ⟨rfl,rfl⟩))
 have j0:(0:Int)≤(i:Int):=by omega
 have j1:(i:Int)≤(n:Int):=by omega
 have j2:(i:Int)<(n:Int):=by omega
 have j3:(0:Int)≤(i:Int)+1:=by omega
 have j4:(i:Int)+1≤(n:Int):=by omega
 have j5:((i:Int)+1).toNat=i+1:=by omega
 have j6:i+1≤n:=by omega
 have j7:IntKind.i64.wrap ((i:Int)+1)=(i:Int)+1:=by
  rw[IntKind.wrap_i64]
  omega
 have j8:decide ((0:Int)≤(i:Int)+1)=true:=decide_eq_true (by omega)
 have j9:decide ((i:Int)+1≤(n:Int))=true:=decide_eq_true (by omega)
 go_cut [14]from 40 (fun v14 wx=>v14=.string T2∧Hid (Below w.heap.size w wx))
 case first=>
  go_region_with (go_at_call 27;refine(Vt.out _).mono ?_;rintro e w9 ⟨rfl,rfl⟩)
  all_goals
   (go_wp2_with fail
    go_meet
    case rel=>
     exact⟨rfl,by first | exact H2.out.alloc H2.out.size _ | exact(H2.out.drew).alloc H2.out.size _ | exact(H2.out.alloc H2.out.size _).drew⟩)
 case rest=>
  obtain⟨rfl,H3⟩:=hcut
  have ai3:decide ((n:Int)-32≤(i:Int))=mu:=hmu.symm
  have k1:IntKind.i64.wrap ((n:Int)-32)=(n:Int)-32:=by
   rw[IntKind.wrap_i64]
   omega
  have k2:IntKind.i64.wrap ((n:Int)-1)=(n:Int)-1:=by
   rw[IntKind.wrap_i64]
   omega
  have k3:((n:Int)-1).toNat=n-1:=by omega
  have k4:(0:Int)≤(n:Int)-1:=by omega
  have k5:(n:Int)-1≤(n:Int):=by omega
  have k6:n-1≤n:=by omega
  have k7:decide ((0:Int)≤(n:Int)-1)=true:=decide_eq_true (by omega)
  have k8:decide ((n:Int)-1≤(n:Int))=true:=decide_eq_true (by omega)
  clear hmu j0 j1 j2 j3 j4 j5 j6 j7 j8 j9 vK ad0 aa1 Vt WM abe WC M9 Zu hm4 HE1 H1 hA1 OI
  go_wp2_with (first | (go_at_call 28;first | (refine(vo.out _ H3.out).mono ?_;rintro e w4 ⟨rfl,H4⟩;clear vo) | (refine(Wr.out _ H4.out).mono ?_;rintro e w5 ⟨rfl,H5⟩;clear Wr)) | (go_at_call 24;first | (refine(HIL.out _ H5.out).mono ?_;rintro e w6 ⟨rfl,H6⟩;clear HIL) | (refine(HIM.out _ H6.out).mono ?_;rintro e w7 ⟨rfl,H7⟩;clear HIM) | (refine(HIS.out _ H7.out).mono ?_;rintro e w8 ⟨eg,rfl,H8⟩;clear HIS)))
  go_ret
  exact⟨rfl,H8.out⟩
end
end Go.Proofs.YtdmicblafmhflaaGreatDoor
