/- The parser: rules. -/
import Derived.Test.YtdmicblafmhflaaGreatDoorC06
import Derived.Test.YtdmicblafmhflaaGreatDoorC00
import Derived.BigQuiet
import Derived.Deep.QuietTactic
import Derived.Laws.AppendOwnNone
set_option linter.unusedSimpArgs false
set_option linter.unusedVariables false
set_option maxHeartbeats 2000000
namespace Go.Proofs.YtdmicblafmhflaaGreatDoor
section
open Go.RowKit
theorem Kd(w:World)(pb:Nat)(tv:Value)(aa:List Ax.Tok)(nx j:Nat)(r:Ax.br)(h:dd w pb tv aa nx)(hR:Hid (Ax.eF aa nx=(some r,j))):
 Calls Tryz.prog 179 #[.pointer (some ⟨pb,0,none⟩)] w fun e w'=>∃ad n c bd m d l,e=.returned (.tuple #[.agg #[.int .i64 r.head.at_,.string r.head.pred,.slice ad n c,.slice bd m d],.bool true])∧dd w' pb tv aa j∧w.grownBy w' (some pb)∧MR.ok w' ⟨(r.head,.slice ad n c),.slice bd m d,l⟩∧Hid (l.map Prod.fst=r.body):=by
 have lY:=h.2.2.2.2
 have hR:=hR.out
 rcases hA:Ax.b9 aa nx with⟨_ | a,j1⟩
 · rw[Ax.mQ hA]at hR;simp at hR
 · have Ti:=Ax.kF lY h.2.2.1 hA
   have uv:aa[j1]?=some aa[j1]:=List.getElem?_eq_getElem Ti
   have sJ:=Ax.cP uv
   by_cases h8:Ax.aN aa j1=8
   · have hn:=Ax.mj lY Ti h8 (by omega)
     rcases hB:Ax.bV aa aa.length (j1+1) []with⟨_ | b,j2⟩
     · rw[Ax.pq hA h8 hB]at hR;simp at hR
     · have hj2:=Ax.mB lY _ _ _ hn hB
       have qy:aa[j2]?=some aa[j2]:=List.getElem?_eq_getElem hj2
       have lN:=Ax.cP qy
       by_cases h7:Ax.aN aa j2=7
       · rw[Ax.mY hA h8 hB h7]at hR
         simp only[Prod.mk.injEq,Option.some.injEq]at hR
         obtain⟨rfl,rfl⟩:=hR
         refine(T7 w pb tv aa nx h j1 a hA _ uv (by rw[sJ]at h8;simpa using h8) j2 b hB _ qy (by rw[lN]at h7;simpa using h7)).mono ?_
         rintro e w' ⟨ad,c,bd,d,l,rfl,hp,hg,dD,hl⟩
         exact⟨_,_,_,_,_,_,l,rfl,hp,hg,dD,hl⟩
       · rw[Ax.px hA h8 hB h7]at hR;simp at hR
   · by_cases h7:Ax.aN aa j1=7
     · rw[Ax.mU hA h8 h7]at hR
       simp only[Prod.mk.injEq,Option.some.injEq]at hR
       obtain⟨rfl,rfl⟩:=hR
       refine(Ul w pb tv aa nx h j1 a hA _ uv (by rw[sJ]at h8;simpa using h8) (by rw[sJ]at h7;simpa using h7)).mono ?_
       rintro e w' ⟨ad,c,bd,d,l,rfl,hp,hg,dD,hl⟩
       exact⟨_,_,_,_,_,_,l,rfl,hp,hg,dD,hl⟩
     · rw[Ax.pv hA h8 h7]at hR;simp at hR
theorem Kf(w:World)(pb:Nat)(tv:Value)(aa:List Ax.Tok)(nx j:Nat)(h:dd w pb tv aa nx)(hR:Hid (Ax.eF aa nx=(none,j))):
 Calls Tryz.prog 179 #[.pointer (some ⟨pb,0,none⟩)] w fun e w'=>∃x y ad n c bd m d,e=.returned (.tuple #[.agg #[.int .i64 x,.string y,.slice ad n c,.slice bd m d],.bool false])∧dd w' pb tv aa j∧w.grownBy w' (some pb):=by
 have lY:=h.2.2.2.2
 have hR:=hR.out
 rcases hA:Ax.b9 aa nx with⟨_ | a,j1⟩
 · rw[Ax.mQ hA]at hR
   simp only[Prod.mk.injEq,true_and]at hR
   subst hR
   exact UB w pb tv aa nx h j1 hA
 · have Ti:=Ax.kF lY h.2.2.1 hA
   have uv:aa[j1]?=some aa[j1]:=List.getElem?_eq_getElem Ti
   have sJ:=Ax.cP uv
   by_cases h8:Ax.aN aa j1=8
   · have hn:=Ax.mj lY Ti h8 (by omega)
     rcases hB:Ax.bV aa aa.length (j1+1) []with⟨_ | b,j2⟩
     · rw[Ax.pq hA h8 hB]at hR
       simp only[Prod.mk.injEq,true_and]at hR
       subst hR
       exact Vx w pb tv aa nx h j1 a hA _ uv (by rw[sJ]at h8;simpa using h8) j2 hB
     · have hj2:=Ax.mB lY _ _ _ hn hB
       have qy:aa[j2]?=some aa[j2]:=List.getElem?_eq_getElem hj2
       have lN:=Ax.cP qy
       by_cases h7:Ax.aN aa j2=7
       · rw[Ax.mY hA h8 hB h7]at hR;simp at hR
       · rw[Ax.px hA h8 hB h7]at hR
         simp only[Prod.mk.injEq,true_and]at hR
         subst hR
         exact Uu w pb tv aa nx h j1 a hA _ uv (by rw[sJ]at h8;simpa using h8) j2 b hB _ qy (by rw[lN]at h7;simpa using h7)
   · by_cases h7:Ax.aN aa j1=7
     · rw[Ax.mU hA h8 h7]at hR;simp at hR
     · rw[Ax.pv hA h8 h7]at hR
       simp only[Prod.mk.injEq,true_and]at hR
       subst hR
       exact UK w pb tv aa nx h j1 a hA _ uv (by rw[sJ]at h8;simpa using h8) (by rw[sJ]at h7;simpa using h7)
def cJ(l:List MR):List Value:=l.flatMap fun r=>[.int .i64 r.head.1.at_,.string r.head.1.pred,r.head.2,r.bv]
theorem wI(l:List MR)(r:MR):cJ (l++[r])=cJ l++[.int .i64 r.head.1.at_,.string r.head.1.pred,r.head.2,r.bv]:=by simp[cJ]
theorem Tryz.M2:(Tryz.prog.info? 222).map (fun i=>(i.zero,i.size,i.bytes))=some (some (.agg #[.int .i64 0,.string ByteArray.empty,.slice none 0 0,.slice none 0 0]),4,72):=by kernel_rfl
def Ig(w:World)(l:List MR):Prop:=∀r,r∈l→MR.ok w r
theorem QV(w:World):Ig w []:=fun _ h=>by cases h
theorem pe{w w':World}{l:List MR}(h:Ig w l)(hb:Below w.heap.size w w'):Ig w' l:=fun x hx=>MR.below (h x hx) hb
theorem NU{w w':World}{l:List MR}{pb:Nat}{tv:Value}{aa:List Ax.Tok}{nx:Nat}(h:Ig w l)(hp:dd w pb tv aa nx)(hg:w.grownBy w' (some pb)):Ig w' l:=fun x hx=>MR.step (h x hx) hp hg
theorem Ow{w:World}{l:List MR}{x:MR}(h:Ig w l)(hx:MR.ok w x):Ig w (l++[x]):=by
 intro y hy
 rcases List.mem_append.1 hy with hy | hy
 · exact h y hy
 · simp at hy;subst hy;exact hx
theorem Da{w w1 w2:World}{pb:Nat}{tv v:Value}{aa:List Ax.Tok}{nx n:Nat}{xs:List Value}{o1 o2:Obj}{l:List MR}{x:MR}(bq:w1.ownsRow w.heap.size 222 4 v n xs)(fS:dd w1 pb tv aa nx)(hg:w.grownBy w1 (some pb))(dD:Ig w1 l)(hx:MR.ok w1 x)
 (bG:((w1.alloc o1).alloc o2).grownBy w2 v.ownBlock):dd w2 pb tv aa nx∧w.grownBy w2 (some pb)∧Ig w2 (l++[x]):=
 ⟨((fS.alloc o1).alloc o2).row bG (bj ((bq.alloc o1).alloc o2)) (by decide) (by decide),
  oR (grownBy_alloc (grownBy_alloc hg _) _) bG (fun k hk=>(bq.lt k hk).1),
  fun y hy=>MR.type (w:=(w1.alloc o1).alloc o2) (MR.below (Ow dD hx y hy) (((Below.refl _ _).alloc (Nat.le_refl _) _).alloc (by simp) _)) bG (bj ((bq.alloc o1).alloc o2)) (by decide) (by decide)⟩
def O3(w wr:World)(pb:Nat)(tv:Value)(aa:List Ax.Tok)(v:Value)(nx k:Nat)(acc:List MR)(R:Option (List Ax.br)×Nat):Prop:=
 dd wr pb tv aa nx∧wr.ownsRow w.heap.size 222 4 v acc.length (cJ acc)∧Ig wr acc∧w.grownBy wr (some pb)∧acc.length≤nx∧aa.length≤nx+k∧Ax.bU aa k nx (acc.map MR.aw)=R
theorem zV(w:World)(pb:Nat)(tv:Value)(aa:List Ax.Tok)(nx:Nat)(h:dd w pb tv aa nx):
 Calls Tryz.prog 104 #[.pointer (some ⟨pb,0,none⟩)] w fun e w'=>dd w' pb tv aa (Ax.bU aa aa.length nx []).2∧w.grownBy w' (some pb)∧
  ((∃v l,e=.returned (.tuple #[v,.bool true])∧(Ax.bU aa aa.length nx []).1=some (l.map MR.aw)∧w'.ownsRow w.heap.size 222 4 v l.length (cJ l)∧Ig w' l)∨
   (e=.returned (.tuple #[.slice none 0 0,.bool false])∧(Ax.bU aa aa.length nx []).1=none)):=by
 obtain⟨i0,hi,ew,dZ,dX⟩:=info_parts Tryz.M2
 generalize hR:Ax.bU aa aa.length nx []=R
 have ye:=lt_of_heap h.1
 have ud:=Tryz.tE
 go_enter Tryz.func104,Tryz.ntmps104
 go_wp2_with fail
 go_loopg [4] aa.length (fun k v wr=>∃(i:Nat) (acc:List MR),O3 w wr pb tv aa v i k acc R)
 case atStart=>exact⟨nx,[],h,World.ownsRow_nil _ _ _ _,QV _,hO _ _,Nat.zero_le _,by omega,hR⟩
 case round=>
  obtain⟨i,acc,hp,al,dD,hg,PH,hlen,hr⟩:=hrel
  have aE:=hp.2.2.1
  have hle:=hp.2.2.2.1
  have lY:=hp.2.2.2.2
  have cE:=hg.size
  cases gk with
  | zero=>omega
  | succ k=>
  have Ay:Hid (Ax.bU aa (k+1) i (acc.map MR.aw)=R):=hr
  clear hr hR
  obtain⟨t,LF⟩:∃t,aa[i]?=some t:=⟨_,List.getElem?_eq_getElem aE⟩
  have Z7:=Ax.cP LF
  have ht:Hid (aa[i]?=some t):=LF
  clear LF
  by_cases h1:t.kind=1
  · have e:Hid (R=(some (acc.map MR.aw),i)):=Ay.out.symm.trans (Ax.kE (by rw[Z7];exact h1))
    have cA:(t.kind != 1)=false:=by simp[h1]
    clear h1 Z7
    go_wp2_with (first | (go_at_call 105;refine(dS _ _ _ _ _ hp _ ht).mono ?_;rintro e w0 ⟨rfl,bL⟩;have A8:=hp.below bL;have ix:=ae al bL;have Qv:=pe dD bL;have mN:=aq hg (aV bL (some pb))))
    go_ret2
    exact⟨by rw[e.out];exact A8,mN,.inl ⟨_,acc,rfl,by rw[e.out],ix,Qv⟩⟩
  · have sJ:Hid (¬Ax.aN aa i=1):=by rw[Z7];exact h1
    have cA:(t.kind != 1)=true:=by simp[h1]
    clear h1 Z7
    rcases E5:Ax.eF aa i with⟨_ | r,j⟩
    · have hA:Hid (Ax.eF aa i=(none,j)):=E5
      clear E5
      go_wp2_with (first | (go_at_call 105;refine(dS _ _ _ _ _ hp _ ht).mono ?_;rintro e w0 ⟨rfl,bL⟩;have A8:=hp.below bL;have ix:=ae al bL;have Qv:=pe dD bL;have mN:=aq hg (aV bL (some pb))) | (go_at_call 179;refine(Kf _ _ _ _ _ _ A8 hA).mono ?_;rintro e w1 ⟨x,y,ad,n,c,bd,m,d,rfl,fS,fy⟩))
      go_ret2
      have e:=Ay.out.symm.trans (Ax.jt sJ.out hA.out)
      exact⟨by rw[e];exact fS.alloc _,grownBy_alloc (aq mN fy) _,.inr ⟨rfl,by rw[e]⟩⟩
    · have hA:Hid (Ax.eF aa i=(some r,j)):=E5
      have hj:=(Ax.rW lY aE E5).1
      have YG:=(Ax.rW lY aE E5).2 (by simp)
      clear E5
      have mw:Hid (Ax.bU aa (k+1) i (acc.map MR.aw)=Ax.bU aa k j (acc.map MR.aw++[r])):=Ax.mo sJ.out hA.out
      go_wp2_with (first | (go_at_call 105;refine(dS _ _ _ _ _ hp _ ht).mono ?_;rintro e w0 ⟨rfl,bL⟩;have A8:=hp.below bL;have ix:=ae al bL;have Qv:=pe dD bL;have mN:=aq hg (aV bL (some pb))) | (go_at_call 179;refine(Kd _ _ _ _ _ _ _ A8 hA).mono ?_;rintro e w1 ⟨ad,n,c,bd,m,d,l,rfl,fS,fy,wh,hl⟩;have bq:=cV ix A8 fy (by decide);have kV:=(aq mN fy).size;have nS:=NU Qv A8 fy) | (at_builtin;refine wpList_append_own _ rfl (.tmp 18) (.tmp 20) 99 rfl w.heap.size 222 i0 _ 4 72 Tryz.underlying99 hi ew dZ dX rfl (by decide) _ _ _ rfl ((bq.alloc _).alloc _) ⟨w1.heap.size+1,0,none⟩ 1 1 [.int .i64 r.head.at_,.string r.head.pred,.slice ad n c,.slice bd m d] rfl rfl (eL _ _ _ _) (by simp[Value.oneCell']) (by unfold maxLen;omega) (by omega) (by simp;omega) ?_;intro v2 w2 aR bG _;obtain⟨iz,dM,sO⟩:=Da bq fS (aq mN fy) nS wh bG;clear bG bq fS nS wh))
      go_roundg k
      case measure=>omega
      case rel=>
       refine⟨j,acc++[⟨(r.head,.slice ad n c),.slice bd m d,l⟩],iz, ?_,sO,dM,by simp;omega,by omega, ?_⟩
       · rw[wI];simpa using aR
       · rw[List.map_append]
         have e:MR.aw ⟨(r.head,.slice ad n c),.slice bd m d,l⟩=r:=by simp only[MR.aw];rw[hl.out]
         rw[List.map_singleton,e]
         exact mw.out.symm.trans Ay.out
end
/- slices.Index, slices.Contains at strings and at terms. -/
section
open Go.RowKit
theorem aD{w:World}{b:Nat}{e:TypeId}{size:Nat}{ad:Option Addr}{n c:Nat}{xs:List Value}(h:w.ownsRow b e size (.slice ad n c) n xs)(hn:0<n):
 ∃g,ad=some ⟨g,0,none⟩∧g<w.heap.size∧n≤c∧∀j u,xs[j]?=some u→w.cell? ⟨g,j,none⟩=some u:=by
 have bH:=fun g hg=>World.ownsRow.cells h (g:=g) hg
 rcases h.2 with⟨e1,e2⟩ | ⟨g,cap,cur,e1,_,hg,hc,_⟩
 · omega
 · simp only[Value.slice.injEq]at e1
   obtain⟨rfl,_,rfl⟩:=e1
   refine⟨g,rfl,lt_of_heap hg,hc, ?_⟩
   intro j u hu
   have:=bH g rfl j u hu
   have dI:(⟨g,0,none⟩:Addr).add j=⟨g,j,none⟩:=by unfold Addr.add;split<;>simp_all
   rw[dI]at this
   exact this
theorem bh{w:World}{b:Nat}{e:TypeId}{size:Nat}{v:Value}{n:Nat}{xs:List Value}(h:w.ownsRow b e size v n xs):n≤9223372036854775807:=by
 rcases h.2 with⟨_,rfl⟩ | ⟨g,cap,cur,_,_,_,h1,h2,_⟩
 · omega
 · unfold maxLen at h2;omega
def strCells(l:List ByteArray):List Value:=l.map .string
theorem Bf(l:List ByteArray)(k:Nat)(h:k<l.length):(strCells l)[k]?=some (.string l[k]):=by simp[strCells,h]
theorem eC(a b:ByteArray):(a.toList==b.toList)=decide (a=b):=by
 rw[toList_eq,toList_eq,Bool.eq_iff_iff]
 rcases a with⟨⟨a⟩⟩
 rcases b with⟨⟨b⟩⟩
 simp
theorem Cs(w:World)(b:Nat)(ad:Option Addr)(c:Nat)(l:List ByteArray)(v:ByteArray)(h:w.ownsRow b 9 1 (.slice ad l.length c) l.length (strCells l)):
 Calls Tryz.prog 261 #[.slice ad l.length c,.string v] w fun e w'=>∃i:Int,e=.returned (.int .i64 i)∧(0≤i↔v∈l)∧w'=w:=by
 have hle:=bh h
 go_enter Tryz.func261,Tryz.ntmps261
 go_wp2_with fail
 go_loop [8] (fun i=>∃k:Nat,k≤l.length∧i=.int .i64 k∧∀j (hj:j<l.length),j<k→v≠l[j]) (fun i=>l.length-(intOf i).toNat)
 case atStart=>exact⟨0,Nat.zero_le _,rfl,fun j _ hj=>by omega⟩
 case round=>
  obtain⟨k,hk,rfl,iM⟩:=hrel
  have Cw:Hid (∀j (hj:j<l.length),j<k→v≠l[j]):=iM
  clear iM
  by_cases aE:k<l.length
  · obtain⟨g,rfl,hg,hc,bH⟩:=aD h (by omega)
    have kG:=bH _ _ (Bf l k aE)
    clear bH
    generalize hx:l[k]=x at kG
    have HX:Hid (l[k]=x):=hx
    clear hx
    by_cases hv:v=x
    · have hb:(v.toList==x.toList)=true:=by rw[eC];simp[hv]
      have HV:Hid (v=x):=hv
      clear hv
      go_wp2_with fail
      go_ret
      refine⟨k,rfl,⟨fun _=> ?_,fun _=>by omega⟩,rfl⟩
      rw[HV.out,←HX.out]
      exact List.getElem_mem aE
    · have hb:(v.toList==x.toList)=false:=by rw[eC];simp[hv]
      have HV:Hid (¬v=x):=hv
      clear hv
      go_wp2_with fail
      go_round
      case rel=>
       refine⟨k+1,by omega,by go_num,fun j hj Wz=> ?_⟩
       by_cases e:j=k
       · subst e;rw[HX.out];exact HV.out
       · exact Cw.out j hj (by omega)
      case measure=>simp[intOf];omega
  · go_wp2_with fail
    go_ret
    refine⟨-1,rfl,⟨fun h=>by omega,fun hm=> ?_⟩,rfl⟩
    obtain⟨j,hj,e⟩:=List.getElem_of_mem hm
    exact absurd e.symm (Cw.out j hj (by omega))
theorem nN(w:World)(b:Nat)(ad:Option Addr)(c:Nat)(l:List ByteArray)(v:ByteArray)(h:w.ownsRow b 9 1 (.slice ad l.length c) l.length (strCells l)):
 Calls Tryz.prog 225 #[.slice ad l.length c,.string v] w fun e w'=>e=.returned (.bool (Ax.has l v))∧w'=w:=by
 have hle:=bh h
 go_enter Tryz.func225,Tryz.ntmps225
 go_wp2_with (go_at_call 261;refine(Cs _ _ _ _ _ _ h).mono ?_;rintro e w' ⟨i,rfl,hi,rfl⟩;have HI:Hid (0≤i↔v∈l):=hi;clear hi)
 go_ret
 exact⟨eX (by rw[Bool.eq_iff_iff];rw[Ax.Ho];simp;exact HI.out),rfl⟩
end
/- slices.Index, slices.Contains at terms. -/
section
open Go.RowKit
theorem fe(l:List Ax.Term)(k:Nat)(h:k<l.length):
 (cg l)[k*2]?=some (.int .i64 l[k].kind)∧(cg l)[k*2+1]?=some (.string l[k].text):=by
 induction l generalizing k with
 | nil=>simp at h
 | cons a l ih=>
  cases k with
  | zero=>simp[cg]
  | succ k=>
   have:=ih k (by simpa using h)
   have e:∀j,(cg (a::l))[(k+1)*2+j]?=(cg l)[k*2+j]?:=by
    intro j
    have:cg (a::l)=[.int .i64 a.kind,.string a.text]++cg l:=by simp[cg]
    rw[this,List.getElem?_append_right (by simp;omega)]
    congr 1
    simp;omega
   have e0:=e 0
   simp only[Nat.add_zero]at e0
   rw[e0,e 1]
   simpa using this
theorem uk(w:World)(o:Obj)(n:Nat):Below w.heap.size w ((w.alloc o).drewN n):=
 ((Below.refl _ _).alloc (Nat.le_refl _) _).trans ⟨rfl,rfl,rfl,Nat.le_refl _,fun _ _=>rfl⟩
theorem Tryz.GJ:(Tryz.prog.fieldsOf 310).toList=[{name:= "Kind",type:=308,offset:=0,embedded:=false,tag:= "",pkgPath:= "",byteOffset:=0},{name:= "Text",type:=9,offset:=1,embedded:=false,tag:= "",pkgPath:= "",byteOffset:=8}]:=by kernel_rfl
theorem Tryz.Gy:Tryz.prog.underlying 310=some (.struct (Tryz.prog.fieldsOf 310)):=by kernel_rfl
theorem Tryz.Md:Tryz.prog.stoodInHeld 310=false:=by kernel_rfl
theorem Tryz.J9:Tryz.prog.eqGuardType Tryz.prog.depth 310=false:=by kernel_rfl
theorem Bm(a b:Int)(s t:ByteArray)(w:World):(binOp .eql 310 (.agg #[.int .i64 a,.string s]) (.agg #[.int .i64 b,.string t])).run Tryz.prog w=.ok (.bool (Ax.Term.beq ⟨a,s⟩ ⟨b,t⟩)) w:=by
 have h99:Tryz.prog.underlying 308=some (.int .i64):=Tryz.underlying308
 have h9:Tryz.prog.underlying 9=some .string:=Tryz.underlying9
 rw[run_eql_struct,run_equalIn_struct w 9999 310 _ _ Tryz.Gy Tryz.Md,Tryz.GJ]
 simp only[Op.eqFields,part,isAgg,run_underlying h99,run_underlying h9,Ax.Term.beq,←eC]
 simp[part,isAgg,run_underlying h99,run_underlying h9,run_equalIn_int w 9998 308 .i64 .i64 a b h99,run_equalIn_string w 9998 9 s t h9]
 by_cases h1:a=b<;>by_cases h2:s.toList=t.toList<;>simp[h1,h2]
theorem zB(w:World)(b:Nat)(ad:Option Addr)(c:Nat)(l:List Ax.Term)(v:Ax.Term)(h:w.ownsRow b 310 2 (.slice ad l.length c) l.length (cg l)):
 Calls Tryz.prog 262 #[.slice ad l.length c,.agg #[.int .i64 v.kind,.string v.text]] w fun e w'=>∃i:Int,e=.returned (.int .i64 i)∧(0≤i↔v∈l)∧Below w.heap.size w w':=by
 have hle:=bh h
 go_enter Tryz.func262,Tryz.ntmps262
 go_wp2_with fail
 go_loopw [8] (fun i wr=>∃k m:Nat,k≤l.length∧i=.int .i64 k∧wr=(w.alloc (.cells #[.int .i64 v.kind,.string v.text] 310)).drewN m∧∀j (hj:j<l.length),j<k→v≠l[j]) (fun i _=>l.length-(intOf i).toNat)
 case atStart=>exact⟨0,0,Nat.zero_le _,rfl,rfl,fun j _ hj=>by omega⟩
 case round=>
  obtain⟨k,m,hk,rfl,rfl,iM⟩:=hrel
  have Cw:Hid (∀j (hj:j<l.length),j<k→v≠l[j]):=iM
  clear iM
  by_cases aE:k<l.length
  · obtain⟨g,rfl,hg,hc,bH⟩:=aD h (by omega)
    have fG:=bH _ _ (fe l k aE).1
    have fC:=bH _ _ (fe l k aE).2
    clear bH
    generalize hx:l[k]=x at fG fC
    have HX:Hid (l[k]=x):=hx
    clear hx
    have heq:=Bm
    have Aq:∀(op:BinOp) (x y:Operand) (xs ys:Array Value) (w:World),(eqGuard op 310 x y (.agg xs) (.agg ys)).run Tryz.prog w=.ok () w:=fun op x y xs ys w=>run_eqGuard_agg w op 310 x y xs ys Tryz.J9
    cases hv:Ax.Term.beq ⟨v.kind,v.text⟩ ⟨x.kind,x.text⟩
    case true=>
     have HV:Hid (v=x):=(Ax.Term.beq_iff _ _).1 hv
     go_wp2_with fail
     go_quiet (fail)
     go_wp2_with fail
     go_ret
     refine⟨k,rfl,⟨fun _=> ?_,fun _=>by omega⟩,by rw[World.drewN_drewN];exact uk _ _ _⟩
     have hm:l[k]∈l:=List.getElem_mem aE
     rw[HX.out]at hm
     rw[HV.out]
     exact hm
    case false=>
     have HV:Hid (¬v=x):=fun e=>by rw[(Ax.Term.beq_iff _ _).2 e]at hv;cases hv
     go_wp2_with fail
     go_quiet (fail)
     go_wp2_with fail
     go_roundw
     case rel=>
      refine⟨k+1,_,by omega,by go_num,rfl,fun j hj Wz=> ?_⟩
      by_cases e:j=k
      · subst e;rw[HX.out];exact HV.out
      · exact Cw.out j hj (by omega)
     case measure=>simp[intOf];omega
  · go_wp2_with fail
    go_ret
    refine⟨-1,rfl,⟨fun h=>by omega,fun hm=> ?_⟩,uk _ _ _⟩
    obtain⟨j,hj,e⟩:=List.getElem_of_mem hm
    exact absurd e.symm (Cw.out j hj (by omega))
theorem tL(w:World)(b:Nat)(ad:Option Addr)(c:Nat)(l:List Ax.Term)(v:Ax.Term)(h:w.ownsRow b 310 2 (.slice ad l.length c) l.length (cg l)):
 Calls Tryz.prog 228 #[.slice ad l.length c,.agg #[.int .i64 v.kind,.string v.text]] w fun e w'=>e=.returned (.bool (Ax.jc l v))∧Below w.heap.size w w':=by
 have hle:=bh h
 go_enter Tryz.func228,Tryz.ntmps228
 go_wp2_with (go_at_call 262;refine(zB _ _ _ _ _ _ (h.alloc _)).mono ?_;rintro e w' ⟨i,rfl,hi,a8⟩;have HI:Hid (0≤i↔v∈l):=hi;clear hi)
 go_ret
 refine⟨eX (by rw[Bool.eq_iff_iff,Ax.uK];simp;exact HI.out), ?_⟩
 exact((Below.refl _ _).alloc (Nat.le_refl _) _).trans (a8.mono (by simp))
end
/- isWide, bodyHas's closure; slices.IndexFunc, slices.ContainsFunc with each. -/
section
open Go.RowKit
theorem bK(l:List MA)(k:Nat)(h:k<l.length):
 (bx l)[k*3]?=some (.int .i64 (l[k]).1.at_)∧(bx l)[k*3+1]?=some (.string (l[k]).1.pred)∧(bx l)[k*3+2]?=some (l[k]).2:=by
 induction l generalizing k with
 | nil=>simp at h
 | cons a l ih=>
  cases k with
  | zero=>simp[bx]
  | succ k=>
   have:=ih k (by simpa using h)
   have e:∀j,(bx (a::l))[(k+1)*3+j]?=(bx l)[k*3+j]?:=by
    intro j
    have:bx (a::l)=[.int .i64 a.1.at_,.string a.1.pred,a.2]++bx l:=by simp[bx]
    rw[this,List.getElem?_append_right (by simp;omega)]
    congr 1
    simp;omega
   have e0:=e 0
   simp only[Nat.add_zero]at e0
   rw[e0,e 1,e 2]
   simpa using this
theorem yb(w:World)(a:Ax.Atom)(ad:Option Addr)(c:Nat)(hn:a.ag.length≤9223372036854775807):
 Calls Tryz.prog 182 #[.agg #[.int .i64 a.at_,.string a.pred,.slice ad a.ag.length c]] w fun e w'=>e=.returned (.bool (Ax.wide a))∧Below w.heap.size w w':=by
 go_enter Tryz.func182,Tryz.ntmps182
 go_wp2_with fail
 go_ret
 exact⟨eX (by unfold Ax.wide;rw[Bool.eq_iff_iff];simp;omega),(Below.refl _ _).alloc (Nat.le_refl _) _⟩
theorem rH(w:World)(x:Int)(y:ByteArray)(b:Nat)(ad:Option Addr)(c:Nat)(l:List Ax.Term)(t:Ax.Term)(tb:Nat)(h:w.ownsRow b 310 2 (.slice ad l.length c) l.length (cg l))
 (ht:w.heap[tb]?=some (.cells #[.int .i64 t.kind,.string t.text] 310 (0,0))):
 Calls Tryz.prog 227 #[.agg #[.int .i64 x,.string y,.slice ad l.length c],.pointer (some ⟨tb,0,none⟩)] w fun e w'=>e=.returned (.bool (Ax.jc l t))∧Below w.heap.size w w':=by
 have k0:=ab ht 0
 have k1:=ab ht 1
 have aE:=lt_of_heap ht
 simp only[List.getElem?_toArray,List.getElem?_cons_zero,List.getElem?_cons_succ]at k0 k1
 have hle:=bh h
 go_enter Tryz.func227,Tryz.ntmps227
 go_wp2_with (go_at_call 228;refine(tL _ _ _ _ _ t (h.alloc _)).mono ?_;rintro e w' ⟨rfl,a8⟩)
 go_ret
 exact⟨rfl,((Below.refl _ _).alloc (Nat.le_refl _) _).trans (a8.mono (by simp))⟩
theorem yG(w:World)(b:Nat)(ad:Option Addr)(c:Nat)(l:List MA)(h:w.ownsRow b 219 3 (.slice ad l.length c) l.length (bx l))(dD:sV w l):
 Calls Tryz.prog 226 #[.slice ad l.length c,.func (Fn.func 182) #[] #[]] w fun e w'=>∃i:Int,e=.returned (.int .i64 i)∧(0≤i↔∃x,x∈l∧Ax.wide x.1=true)∧Below w.heap.size w w':=by
 have hle:=bh h
 go_enter Tryz.func226,Tryz.ntmps226
 go_wp2_with fail
 go_loopw [8] (fun i wr=>∃k:Nat,k≤l.length∧i=.int .i64 k∧Below w.heap.size w wr∧∀j (hj:j<l.length),j<k→Ax.wide (l[j]).1=false) (fun i _=>l.length-(intOf i).toNat)
 case atStart=>exact⟨0,Nat.zero_le _,rfl,Below.refl _ _,fun j _ hj=>by omega⟩
 case round=>
  obtain⟨k,hk,rfl,aU,iM⟩:=hrel
  have Cw:Hid (∀j (hj:j<l.length),j<k→Ax.wide (l[j]).1=false):=iM
  clear iM
  by_cases aE:k<l.length
  · have bQ:=ae h aU
    obtain⟨g,rfl,hg,hc,bH⟩:=aD bQ (by omega)
    have fG:=bH _ _ (bK l k aE).1
    have fC:=bH _ _ (bK l k aE).2.1
    have gW:=bH _ _ (bK l k aE).2.2
    have yB:MA.ok wr l[k]:=mJ dD aU _ (List.getElem_mem aE)
    obtain⟨QB,c',tU⟩:=ah yB
    unfold MA.ok at yB
    rw[tU]at gW yB
    generalize ha:(l[k]).1=a at fG fC gW yB
    have HA:Hid ((l[k]).1=a):=ha
    clear ha tU bH bQ
    have ZW:=bh yB
    cases hv:Ax.wide a
    case true=>
     go_wp2_with (go_at_call 182;refine(yb _ _ _ _ ZW).mono ?_;rintro e w1 ⟨rfl,a8⟩)
     go_ret
     refine⟨k,rfl,⟨fun _=>⟨l[k],List.getElem_mem aE,by rw[HA.out];exact hv⟩,fun _=>by omega⟩,aU.trans (a8.mono aU.size)⟩
    case false=>
     go_wp2_with (go_at_call 182;refine(yb _ _ _ _ ZW).mono ?_;rintro e w1 ⟨rfl,a8⟩)
     go_roundw
     case rel=>
      refine⟨k+1,by omega,by go_num,aU.trans (a8.mono aU.size),fun j hj Wz=> ?_⟩
      by_cases e:j=k
      · subst e;rw[HA.out];exact hv
      · exact Cw.out j hj (by omega)
     case measure=>simp[intOf];omega
  · go_wp2_with fail
    go_ret
    refine⟨-1,rfl,⟨fun h=>by omega,fun hm=> ?_⟩,aU⟩
    obtain⟨x,hx,hp⟩:=hm
    obtain⟨j,hj,e⟩:=List.getElem_of_mem hx
    have:=Cw.out j hj (by omega)
    rw[e,hp]at this
    cases this
theorem lZ(w:World)(b:Nat)(ad:Option Addr)(c:Nat)(l:List MA)(h:w.ownsRow b 219 3 (.slice ad l.length c) l.length (bx l))(dD:sV w l):
 Calls Tryz.prog 181 #[.slice ad l.length c,.func (Fn.func 182) #[] #[]] w fun e w'=>e=.returned (.bool (Ax.jf (l.map Prod.fst)))∧Below w.heap.size w w':=by
 have hle:=bh h
 go_enter Tryz.func181,Tryz.ntmps181
 go_wp2_with (go_at_call 226;refine(yG _ _ _ _ _ h dD).mono ?_;rintro e w' ⟨i,rfl,hi,a8⟩;have HI:Hid (0≤i↔∃x,x∈l∧Ax.wide x.1=true):=hi;clear hi)
 go_ret
 refine⟨eX ?_,a8⟩
 unfold Ax.jf
 rw[Bool.eq_iff_iff,List.any_eq_true]
 simp only[decide_eq_true_eq,List.mem_map]
 rw[HI.out]
 constructor
 · rintro⟨x,hx,hp⟩;exact⟨x.1,⟨x,hx,rfl⟩,hp⟩
 · rintro⟨_,⟨x,hx,rfl⟩,hp⟩;exact⟨x,hx,hp⟩
theorem BE(w:World)(b:Nat)(ad:Option Addr)(c:Nat)(l:List MA)(h:w.ownsRow b 219 3 (.slice ad l.length c) l.length (bx l))(dD:sV w l)(t:Ax.Term)(tb:Nat)(ht:w.heap[tb]?=some (.cells #[.int .i64 t.kind,.string t.text] 310 (0,0))):
 Calls Tryz.prog 226 #[.slice ad l.length c,.func (Fn.func 227) #[] #[.pointer (some ⟨tb,0,none⟩)]] w fun e w'=>∃i:Int,e=.returned (.int .i64 i)∧(0≤i↔∃x,x∈l∧Ax.jc x.1.ag t=true)∧Below w.heap.size w w':=by
 have hle:=bh h
 go_enter Tryz.func226,Tryz.ntmps226
 go_wp2_with fail
 go_loopw [8] (fun i wr=>∃k:Nat,k≤l.length∧i=.int .i64 k∧Below w.heap.size w wr∧∀j (hj:j<l.length),j<k→Ax.jc (l[j]).1.ag t=false) (fun i _=>l.length-(intOf i).toNat)
 case atStart=>exact⟨0,Nat.zero_le _,rfl,Below.refl _ _,fun j _ hj=>by omega⟩
 case round=>
  obtain⟨k,hk,rfl,aU,iM⟩:=hrel
  have Cw:Hid (∀j (hj:j<l.length),j<k→Ax.jc (l[j]).1.ag t=false):=iM
  clear iM
  by_cases aE:k<l.length
  · have bQ:=ae h aU
    obtain⟨g,rfl,hg,hc,bH⟩:=aD bQ (by omega)
    have fG:=bH _ _ (bK l k aE).1
    have fC:=bH _ _ (bK l k aE).2.1
    have gW:=bH _ _ (bK l k aE).2.2
    have yB:MA.ok wr l[k]:=mJ dD aU _ (List.getElem_mem aE)
    obtain⟨QB,c',tU⟩:=ah yB
    unfold MA.ok at yB
    rw[tU]at gW yB
    generalize ha:(l[k]).1=a at fG fC gW yB
    have HA:Hid ((l[k]).1=a):=ha
    clear ha tU bH bQ
    have nV:=(aU.block tb (lt_of_heap ht)).trans ht
    cases hv:Ax.jc a.ag t
    case true=>
     go_wp2_with (go_at_call 227;refine(rH _ _ _ _ _ _ _ t tb yB nV).mono ?_;rintro e w1 ⟨rfl,a8⟩)
     go_ret
     refine⟨k,rfl,⟨fun _=>⟨l[k],List.getElem_mem aE,by rw[HA.out];exact hv⟩,fun _=>by omega⟩,aU.trans (a8.mono aU.size)⟩
    case false=>
     go_wp2_with (go_at_call 227;refine(rH _ _ _ _ _ _ _ t tb yB nV).mono ?_;rintro e w1 ⟨rfl,a8⟩)
     go_roundw
     case rel=>
      refine⟨k+1,by omega,by go_num,aU.trans (a8.mono aU.size),fun j hj Wz=> ?_⟩
      by_cases e:j=k
      · subst e;rw[HA.out];exact hv
      · exact Cw.out j hj (by omega)
     case measure=>simp[intOf];omega
  · go_wp2_with fail
    go_ret
    refine⟨-1,rfl,⟨fun h=>by omega,fun hm=> ?_⟩,aU⟩
    obtain⟨x,hx,hp⟩:=hm
    obtain⟨j,hj,e⟩:=List.getElem_of_mem hx
    have:=Cw.out j hj (by omega)
    rw[e,hp]at this
    cases this
theorem vw(w:World)(b:Nat)(ad:Option Addr)(c:Nat)(l:List MA)(h:w.ownsRow b 219 3 (.slice ad l.length c) l.length (bx l))(dD:sV w l)(t:Ax.Term)(tb:Nat)(ht:w.heap[tb]?=some (.cells #[.int .i64 t.kind,.string t.text] 310 (0,0))):
 Calls Tryz.prog 181 #[.slice ad l.length c,.func (Fn.func 227) #[] #[.pointer (some ⟨tb,0,none⟩)]] w fun e w'=>e=.returned (.bool (Ax.nb (l.map Prod.fst) t))∧Below w.heap.size w w':=by
 have hle:=bh h
 go_enter Tryz.func181,Tryz.ntmps181
 go_wp2_with (go_at_call 226;refine(BE _ _ _ _ _ h dD t tb ht).mono ?_;rintro e w' ⟨i,rfl,hi,a8⟩;have HI:Hid (0≤i↔∃x,x∈l∧Ax.jc x.1.ag t=true):=hi;clear hi)
 go_ret
 refine⟨eX ?_,a8⟩
 unfold Ax.nb
 rw[Bool.eq_iff_iff,List.any_eq_true]
 simp only[decide_eq_true_eq,List.mem_map]
 rw[HI.out]
 constructor
 · rintro⟨x,hx,hp⟩;exact⟨x.1,⟨x,hx,rfl⟩,hp⟩
 · rintro⟨_,⟨x,hx,rfl⟩,hp⟩;exact⟨x,hx,hp⟩
end
/- (Rule).atoms, bodyHas. -/
section
open Go.RowKit
theorem ownsRow_lit{w:World}{b:Nat}{e:TypeId}{xs:List Value}{size:Nat}(hs:xs.length=size)(hb:b≤w.heap.size):(w.alloc (.cells xs.toArray e)).ownsRow b e size (.slice (some ⟨w.heap.size,0,none⟩) 1 1) 1 xs:=
 ⟨by simpa using hs,.inr ⟨w.heap.size,1,xs.toArray,rfl,hb,heap_alloc_new _ _,Nat.le_refl _,by unfold maxLen;omega,by simpa using hs,by simp[←hs]⟩⟩
theorem TQ(w:World)(o:Obj)(e:TypeId)(x y z:Value):((w.alloc o).alloc (.cells #[x,y,z] e)).ownsRow (w.heap.size+1) e 3 (.slice (some ⟨w.heap.size+1,0,none⟩) 1 1) 1 [x,y,z]:=by
 have:=ownsRow_lit (w:=w.alloc o) (b:=w.heap.size+1) (e:=e) (xs:=[x,y,z]) (size:=3) rfl (by simp)
 rw[World.size_alloc]at this
 exact this
theorem qv(w:World)(o o':Obj):((w.alloc o).alloc o').heap[w.heap.size+1]?=some o':=by
 have:=heap_alloc_new (w.alloc o) o'
 rw[World.size_alloc]at this
 exact this
theorem yN(l:List MA):(bx l).length=l.length*3:=by induction l with | nil=>rfl | cons a l ih=>simp[bx]at ih ⊢;omega
theorem yI{w:World}{l:List MA}(h:sV w l):∀u∈bx l,u.oneCell'=true:=by
 intro u hu
 simp only[bx,List.mem_flatMap,List.mem_cons,List.not_mem_nil,or_false]at hu
 obtain⟨x,hx,hu⟩:=hu
 rcases hu with rfl | rfl | rfl
 · rfl
 · rfl
 · obtain⟨a,c,e⟩:=ah (h x hx)
   rw[e];rfl
theorem jg(w:World)(a:Ax.Atom)(ad:Option Addr)(c:Nat)(bd:Option Addr)(d:Nat)(l:List MA)(h:MR.ok w ⟨(a,.slice ad a.ag.length c),.slice bd l.length d,l⟩)(hl:l.length≤1000):
 Calls Tryz.prog 112 #[.agg #[.int .i64 a.at_,.string a.pred,.slice ad a.ag.length c,.slice bd l.length d]] w fun e w'=>∃QB c',e=.returned (.slice QB (l.length+1) c')∧w'.ownsRow 0 219 3 (.slice QB (l.length+1) c') (l.length+1) (bx ((a,.slice ad a.ag.length c)::l))∧sV w' ((a,.slice ad a.ag.length c)::l)∧Below w.heap.size w w':=by
 obtain⟨i0,hi,ew,dZ,dX⟩:=info_parts Tryz.CW
 obtain⟨hh,hb,jz⟩:=h
 simp only at hh hb jz
 have qB:sV w ((a,.slice ad a.ag.length c)::l):=by
  intro x hx
  rcases List.mem_cons.1 hx with rfl | hx
  · exact hh
  · exact jz x hx
 have h1:=yI jz
 have hlen:=yN l
 have dU:∀w',Below w.heap.size w w'→sV w' ((a,.slice ad a.ag.length c)::l):=fun w' hw=>mJ qB hw
 have dg:bx ((a,.slice ad a.ag.length c)::l)=[.int .i64 a.at_,.string a.pred,.slice ad a.ag.length c]++bx l:=by simp[bx]
 have HC:Hid (bx ((a,.slice ad a.ag.length c)::l)=[.int .i64 a.at_,.string a.pred,.slice ad a.ag.length c]++bx l):=dg
 clear dg
 rcases hb.2 with⟨e1,e2⟩ | ⟨g,cap,cur,e1,_,hg,Oq,_⟩
 · simp only[Value.slice.injEq]at e1
   obtain⟨rfl,_,rfl⟩:=e1
   obtain rfl:l=[]:=List.eq_nil_of_length_eq_zero e2
   simp only[List.length_nil]at*
   clear h1 hlen jz
   go_enter Tryz.func112,Tryz.ntmps112
   go_wp2_with (at_builtin;refine wpList_append_own_none rfl (.tmp 5) (.tmp 7) 220 rfl (w.heap.size+1) 219 i0 3 Tryz.underlying220 hi _ _ _ rfl (TQ _ _ _ _ _ _) rfl ?_)
   go_ret
   have cM:Below w.heap.size w ((w.alloc (.cells #[.int .i64 a.at_,.string a.pred,.slice ad a.ag.length c,.slice none 0 0] 222)).alloc (.cells #[.int .i64 a.at_,.string a.pred,.slice ad a.ag.length c] 219)):=((Below.refl _ _).alloc (Nat.le_refl _) _).alloc (by simp) _
   exact⟨_,_,rfl,by rw[HC.out];exact aG (TQ _ _ _ _ _ _) (Nat.zero_le _),dU _ cM,cM⟩
 · simp only[Value.slice.injEq]at e1
   obtain⟨rfl,_,rfl⟩:=e1
   have bH:=World.ownsRow.cells hb (g:=g) rfl
   go_enter Tryz.func112,Tryz.ntmps112
   go_wp2_with (at_builtin;refine wpList_append_own _ rfl (.tmp 5) (.tmp 7) 220 rfl (w.heap.size+1) 219 i0 _ 3 48 Tryz.underlying220 hi ew dZ dX rfl (by decide) _ _ _ rfl (TQ _ _ _ _ _ _) ⟨g,0,none⟩ l.length d (bx l) rfl hlen (World.ownsRow.cells ((hb.alloc _).alloc _) (g:=g) rfl) h1 (by unfold maxLen;omega) (by omega) (by simp) ?_;intro v2 w2 aR bG _;obtain⟨QB,c',rfl⟩:=ah aR)
   go_ret
   have cM:Below w.heap.size w w2:=by
    refine(((Below.refl _ _).alloc (Nat.le_refl _) _).alloc (by simp) _).grown bG (by simp;omega) ?_
    intro k hk
    have BI:some (w.heap.size+1)=some k:=hk
    simp only[Option.some.injEq]at BI
    omega
   rw[Nat.add_comm 1 l.length]at aR
   refine⟨QB,c',by rw[Nat.add_comm 1 l.length];rfl, ?_,dU _ cM,cM⟩
   rw[HC.out]
   exact aG aR (Nat.zero_le _)
theorem uC(w:World)(a:Ax.Atom)(ad:Option Addr)(c:Nat)(bd:Option Addr)(d:Nat)(l:List MA)(h:MR.ok w ⟨(a,.slice ad a.ag.length c),.slice bd l.length d,l⟩)(t:Ax.Term):
 Calls Tryz.prog 183 #[.agg #[.int .i64 a.at_,.string a.pred,.slice ad a.ag.length c,.slice bd l.length d],.agg #[.int .i64 t.kind,.string t.text]] w fun e w'=>e=.returned (.bool (Ax.nb (l.map Prod.fst) t))∧Below w.heap.size w w':=by
 obtain⟨_,hb,jz⟩:=h
 simp only at hb jz
 go_enter Tryz.func183,Tryz.ntmps183
 go_wp2_with (go_at_call 181;refine(vw _ _ _ _ l ((hb.alloc _).alloc _) (fun x hx=>MA.alloc (MA.alloc (jz x hx) _) _) t (w.heap.size+1) (qv _ _ _)).mono ?_;rintro e w1 ⟨rfl,a8⟩)
 go_ret
 exact⟨rfl,(((Below.refl _ _).alloc (Nat.le_refl _) _).alloc (by simp) _).trans (a8.mono (by simp;omega))⟩
end
end Go.Proofs.YtdmicblafmhflaaGreatDoor
