/- Read. -/
import Derived.Test.YtdmicblafmhflaaGreatDoorC20
import Derived.Test.YtdmicblafmhflaaGreatDoorC21
import Derived.Test.YtdmicblafmhflaaGreatDoorC11
import Derived.Test.YtdmicblafmhflaaGreatDoorC00
import Derived.Test.YtdmicblafmhflaaGreatDoorC17
set_option linter.unusedSimpArgs false
set_option linter.unusedVariables false
set_option maxHeartbeats 2000000
set_option maxRecDepth 100000
namespace Go.Proofs.YtdmicblafmhflaaGreatDoor
section
open Go.RowKit
theorem F2(w:World)(pb:Nat)(tv:Value)(aa:List Ax.Tok)(nx j:Nat)(h:dd w pb tv aa nx)(hR:Hid (Ax.bU aa aa.length nx []=(none,j))):
 Calls Tryz.prog 104 #[.pointer (some ⟨pb,0,none⟩)] w fun e w'=>e=.returned (.tuple #[.slice none 0 0,.bool false])∧dd w' pb tv aa j∧w.grownBy w' (some pb):=by
 refine(zV w pb tv aa nx h).mono ?_
 rintro e w' ⟨hp,hg,hc⟩
 rw[hR.out]at hp hc
 rcases hc with⟨v,ts,_,hn,_⟩ | ⟨rfl,_⟩
 · simp at hn
 · exact⟨rfl,hp,hg⟩
theorem kJ(w:World)(pb:Nat)(tv:Value)(aa:List Ax.Tok)(nx j:Nat)(rs:List Ax.br)(h:dd w pb tv aa nx)(hR:Hid (Ax.bU aa aa.length nx []=(some rs,j))):
 Calls Tryz.prog 104 #[.pointer (some ⟨pb,0,none⟩)] w fun e w'=>∃rd rc l,e=.returned (.tuple #[.slice rd (List.length l) rc,.bool true])∧Hid (l.map MR.aw=rs)∧dd w' pb tv aa j∧w.grownBy w' (some pb)∧w'.ownsRow 0 222 4 (.slice rd l.length rc) l.length (cJ l)∧Ig w' l:=by
 refine(zV w pb tv aa nx h).mono ?_
 rintro e w' ⟨hp,hg,hc⟩
 rw[hR.out]at hp hc
 rcases hc with⟨v,l,rfl,hn,al,dD⟩ | ⟨_,hn⟩
 · obtain⟨a,c,rfl⟩:=ah al
   simp only[Option.some.injEq]at hn
   exact⟨a,c,l,rfl,hn.symm,hp,hg,aG al (Nat.zero_le _),dD⟩
 · simp at hn
theorem dd.first{s:ByteArray}{w1:World}{td:Option Addr}{tc bs:Nat}(h:w1.ownsRow bs 210 3 (.slice td (Ax.split s).length tc) (Ax.split s).length (di (Ax.split s)))(hs:s.size≤600):
 dd (w1.alloc (.cells #[.slice td (Ax.split s).length tc,.int .i64 0] 205)) w1.heap.size (.slice td (Ax.split s).length tc) (Ax.split s) 0:=
 ⟨heap_alloc_new _ _,aG (h.alloc _) (Nat.zero_le _),Ax.AM s,by have:=Ax.gO s;omega,Ax.qH s⟩
theorem gK{w w1:World}{o:Obj}(hb:Below (w.alloc o).heap.size (w.alloc o) w1):w1.heap[w.heap.size]?=some o∧Below w.heap.size w w1∧w.heap.size<w1.heap.size:=by
 have hs:=hb.size
 simp only[World.size_alloc]at hs
 exact⟨(hb.block _ (by simp)).trans (heap_alloc_new _ _),((Below.refl _ _).alloc (Nat.le_refl _) _).trans (hb.mono (by simp)),by omega⟩
theorem gD{w w1 w2:World}{o o2:Obj}(r1:w1.heap[w.heap.size]?=some o)(g1:Below w.heap.size w w1)(hg:(w1.alloc o2).grownBy w2 (some w1.heap.size)):
 w2.heap[w.heap.size]?=some o∧Below w.heap.size w w2∧w1.heap.size<w2.heap.size:=by
 have aE:=lt_of_heap r1
 have hs:=hg.size
 simp only[World.size_alloc]at hs
 refine⟨?_, ?_,by omega⟩
 · rw[hg.block _ (by simp;omega) (by simp;omega),Below.heap_alloc _ _ _ aE]
   exact r1
 · exact(g1.alloc (by omega) o2).grown hg (by simp;omega) (fun k hk=>by cases hk;omega)
theorem cF{w w2 w3:World}{o:Obj}(r2:w2.heap[w.heap.size]?=some o)(b2:Below w.heap.size w w2)(hb:Below w2.heap.size w2 w3):w3.heap[w.heap.size]?=some o∧Below w.heap.size w w3:=
 ⟨(hb.block _ (lt_of_heap r2)).trans r2,b2.trans (hb.mono b2.size)⟩
theorem fL{w w2:World}{k:Nat}{a b:Value}{T:TypeId}(r2:w2.heap[k]?=some (.cells #[a,b] T (0,0)))(c d:Value)(gw:Below w.heap.size w w2)(hk:w.heap.size≤k):
 ((w2.setCell ⟨k,0,none⟩ c).setCell ⟨k,1,none⟩ d).heap[k]?=some (.cells #[c,d] T (0,0))∧Below w.heap.size w ((w2.setCell ⟨k,0,none⟩ c).setCell ⟨k,1,none⟩ d):=by
 have h0:=heap_setCell_same (off:=0) r2 c
 have h1:=heap_setCell_same (off:=1) h0 d
 exact⟨by rw[h1];rfl,(gw.setCell (p:=⟨k,0,none⟩) hk c).setCell (p:=⟨k,1,none⟩) hk d⟩
theorem aI.rX{w:World}{rd:Option Addr}{rc:Nat}{l:List MR}{rs:List Ax.br}(h:w.ownsRow 0 222 4 (.slice rd l.length rc) l.length (cJ l))(hm:Ig w l)(hl:l.map MR.aw=rs)(hf:Hid (rs.length≤1000∧∀r,r∈rs→Ax.Fits 600 1000 r)):aI w rd rc l:=by
 refine⟨h,hm,fun r hr=> ?_⟩
 have:=(hf.out.2 r.aw (by rw[←hl];exact List.mem_map.2 ⟨r,hr,rfl⟩)).1
 simpa [MR.aw]using this
theorem aI.len{l:List MR}{rs:List Ax.br}(hl:l.map MR.aw=rs)(hf:Hid (rs.length≤1000∧∀r,r∈rs→Ax.Fits 600 1000 r)):l.length≤1000:=by
 have:=hf.out.1
 rw[←hl]at this
 simpa using this
theorem aI.kM{l:List MR}{rs:List Ax.br}(hl:l.map MR.aw=rs)(hf:Hid (rs.length≤1000∧∀r,r∈rs→Ax.Fits 600 1000 r)):Hid (∀a,a∈(l.map MR.aw).flatMap Ax.br.atoms→a.pred.size≤600):=by
 intro a ha
 rw[hl]at ha
 obtain⟨r,hr,ha⟩:=List.mem_flatMap.1 ha
 exact(hf.out.2 r hr).2 a ha
theorem BM(w:World)(rd:Option Addr)(rc:Nat)(l:List MR)(p:Nat)(h:aI w rd rc l)(hp:Ax.cz 0 [] (l.map MR.aw)=some p):
 Calls Tryz.prog 106 #[.slice rd l.length rc] w fun e w'=>e=.returned (.tuple #[.int .i64 p,.bool true])∧Below w.heap.size w w':=by
 refine(uU w rd rc l h).mono ?_
 rintro e w' ⟨hb,hc⟩
 rw[hp]at hc
 rcases hc with⟨q,hq,rfl⟩ | ⟨hq,_⟩
 · simp only[Option.some.injEq]at hq;subst hq;exact⟨rfl,hb⟩
 · simp at hq
theorem eM(w:World)(rd:Option Addr)(rc:Nat)(l:List MR)(h:aI w rd rc l)(hp:Ax.cz 0 [] (l.map MR.aw)=none):
 Calls Tryz.prog 106 #[.slice rd l.length rc] w fun e w'=>e=.returned (.tuple #[.int .i64 0,.bool false])∧Below w.heap.size w w':=by
 refine(uU w rd rc l h).mono ?_
 rintro e w' ⟨hb,hc⟩
 rw[hp]at hc
 rcases hc with⟨q,hq,_⟩ | ⟨_,rfl⟩
 · simp at hq
 · exact⟨rfl,hb⟩
theorem zo(w:World)(rd:Option Addr)(rc:Nat)(l:List MR)(p:Nat)(h:aI w rd rc l)(hp:Ax.b8 (l.map MR.aw)=some p):
 Calls Tryz.prog 108 #[.slice rd l.length rc] w fun e w'=>e=.returned (.tuple #[.int .i64 p,.bool true])∧Below w.heap.size w w':=by
 refine(ry w rd rc l h).mono ?_
 rintro e w' ⟨hb,hc⟩
 rw[hp]at hc
 rcases hc with⟨q,hq,rfl⟩ | ⟨hq,_⟩
 · simp only[Option.some.injEq]at hq;subst hq;exact⟨rfl,hb⟩
 · simp at hq
theorem fZ(w:World)(rd:Option Addr)(rc:Nat)(l:List MR)(h:aI w rd rc l)(hp:Ax.b8 (l.map MR.aw)=none):
 Calls Tryz.prog 108 #[.slice rd l.length rc] w fun e w'=>e=.returned (.tuple #[.int .i64 0,.bool false])∧Below w.heap.size w w':=by
 refine(ry w rd rc l h).mono ?_
 rintro e w' ⟨hb,hc⟩
 rw[hp]at hc
 rcases hc with⟨q,hq,_⟩ | ⟨_,rfl⟩
 · simp at hq
 · exact⟨rfl,hb⟩
theorem vo(w:World)(rd:Option Addr)(rc:Nat)(l:List MR)(p:Nat)(h:aI w rd rc l)(yD:l.length≤1000)(nK:Hid (∀a,a∈(l.map MR.aw).flatMap Ax.br.atoms→a.pred.size≤600))(hp:Ax.dE [] ((l.map MR.aw).flatMap Ax.br.atoms)=some p):
 Calls Tryz.prog 107 #[.slice rd l.length rc] w fun e w'=>e=.returned (.tuple #[.int .i64 p,.bool true])∧Below w.heap.size w w':=by
 refine(oB w rd rc l h yD nK.out).mono ?_
 rintro e w' ⟨hb,hc⟩
 rw[hp]at hc
 rcases hc with⟨q,hq,rfl⟩ | ⟨hq,_⟩
 · simp only[Option.some.injEq]at hq;subst hq;exact⟨rfl,hb⟩
 · simp at hq
theorem jI(w:World)(rd:Option Addr)(rc:Nat)(l:List MR)(h:aI w rd rc l)(yD:l.length≤1000)(nK:Hid (∀a,a∈(l.map MR.aw).flatMap Ax.br.atoms→a.pred.size≤600))(hp:Ax.dE [] ((l.map MR.aw).flatMap Ax.br.atoms)=none):
 Calls Tryz.prog 107 #[.slice rd l.length rc] w fun e w'=>e=.returned (.tuple #[.int .i64 0,.bool false])∧Below w.heap.size w w':=by
 refine(oB w rd rc l h yD nK.out).mono ?_
 rintro e w' ⟨hb,hc⟩
 rw[hp]at hc
 rcases hc with⟨q,hq,_⟩ | ⟨_,rfl⟩
 · simp at hq
 · exact⟨rfl,hb⟩
theorem Rj(s:ByteArray)(w:World)(hs:s.size≤maxLen)(h:600<s.size):
 Calls Tryz.prog 56 #[.string s] w fun e w'=>e=.returned (.tuple #[.agg #[.string ⟨#[]⟩,.slice none 0 0],.int .i64 1,.int .i64 0])∧Below w.heap.size w w':=by
 unfold maxLen at hs
 go_enter Tryz.func56,Tryz.ntmps56
 go_wp2_with fail
 exact bodyPost_ret (v:=.tuple #[.agg #[.string ⟨#[]⟩,.slice none 0 0],.int .i64 1,.int .i64 0]) (by simp[results,Tryz.results56,go_sem]) rfl ⟨rfl,(Below.refl _ _).alloc (Nat.le_refl _) _⟩
theorem Rf(s:ByteArray)(w:World)(cE:s.size≤600)(j:Nat)(HR:Hid (Ax.bU (Ax.split s) (Ax.split s).length 0 []=(none,j)))(t:Ax.Tok)(HT:Hid ((Ax.split s)[j]?=some t)):
 Calls Tryz.prog 56 #[.string s] w fun e w'=>e=.returned (.tuple #[.agg #[.string ⟨#[]⟩,.slice none 0 0],.int .i64 2,.int .i64 t.at_])∧Below w.heap.size w w':=by
 have Cd:¬(600:Int)<(s.size:Int):=by omega
 have ud:=Tryz.po
 go_enter Tryz.func56,Tryz.ntmps56
 go_wp2_with (first | (go_at_call 102;refine(iU s _ (by omega)).mono ?_;rintro e w0 ⟨rfl,bL⟩) | (go_at_call 103;refine(kg s _ (by omega)).mono ?_;rintro e w1 ⟨v1,rfl,bq,a8⟩;obtain⟨td,tc,rfl⟩:=ah bq;obtain⟨r1,Kz,R0⟩:=gK (bL.trans (a8.mono bL.size))) | (go_at_call 104;have wo:=dd.first (s:=s) (td:=td) (tc:=tc) bq cE;refine(F2 _ _ _ _ _ _ wo HR).mono ?_;rintro e w2 ⟨rfl,iz,dM⟩;obtain⟨r2,b2,GF⟩:=gD r1 Kz dM;have Sj:=af r2 0;have f12:=af r2 1;have C1:=ab r2 0;have xD:=ab r2 1;simp only[List.getElem?_toArray,List.getElem?_cons_zero,List.getElem?_cons_succ]at C1 xD;have Sc:=lt_of_heap r2) | (go_at_call 105;refine(dS _ _ _ _ _ iz _ HT).mono ?_;rintro e w3 ⟨rfl,eA⟩;obtain⟨r3,b3⟩:=cF r2 b2 eA;have QH:=af r3 0;have f13:=af r3 1;have Cc:=ab r3 0;have vr:=ab r3 1;simp only[List.getElem?_toArray,List.getElem?_cons_zero,List.getElem?_cons_succ]at Cc vr;have XX:=lt_of_heap r3))
 obtain⟨hu,bu⟩:=fL r3 (.string ⟨#[]⟩) (.slice none 0 0) b3 (Nat.le_refl _)
 exact bodyPost_ret (v:=.tuple #[.agg #[.string ⟨#[]⟩,.slice none 0 0],.int .i64 2,.int .i64 t.at_]) (by simp[results,Tryz.results56,go_sem,ab hu]) rfl ⟨rfl,bu⟩
end
/- Read, a program by its form. -/
section
open Go.RowKit
theorem QP(s:ByteArray)(w:World)(cE:s.size≤600)(rs:List Ax.br)(j:Nat)(HR:Hid (Ax.bU (Ax.split s) (Ax.split s).length 0 []=(some rs,j)))(HF:Hid (rs.length≤1000∧∀r,r∈rs→Ax.Fits 600 1000 r))(p:Nat)(H3:Hid (Ax.cz 0 [] rs=some p)):
 Calls Tryz.prog 56 #[.string s] w fun e w'=>e=.returned (.tuple #[.agg #[.string ⟨#[]⟩,.slice none 0 0],.int .i64 3,.int .i64 p])∧Below w.heap.size w w':=by
 have Cd:¬(600:Int)<(s.size:Int):=by omega
 have ud:=Tryz.po
 go_enter Tryz.func56,Tryz.ntmps56
 go_wp2_with (first | (go_at_call 102;refine(iU s _ (by omega)).mono ?_;rintro e w0 ⟨rfl,bL⟩) | (go_at_call 103;refine(kg s _ (by omega)).mono ?_;rintro e w1 ⟨v1,rfl,bq,a8⟩;obtain⟨td,tc,rfl⟩:=ah bq;obtain⟨r1,Kz,R0⟩:=gK (bL.trans (a8.mono bL.size))) | (go_at_call 104;have wo:=dd.first (s:=s) (td:=td) (tc:=tc) bq cE;refine(kJ _ _ _ _ _ _ _ wo HR).mono ?_;rintro e w2 ⟨rd,rc,l,rfl,hl,iz,dM,mu,rM⟩;have rN:=aI.rX mu rM hl.out HF;obtain⟨r2,b2,GF⟩:=gD r1 Kz dM;have Sj:=af r2 0;have f12:=af r2 1;have C1:=ab r2 0;have xD:=ab r2 1;simp only[List.getElem?_toArray,List.getElem?_cons_zero,List.getElem?_cons_succ]at C1 xD;have Sc:=lt_of_heap r2) | (go_at_call 106;refine(BM _ _ _ _ p rN (by rw[hl.out];exact H3.out)).mono ?_;rintro e w3 ⟨rfl,eA⟩;obtain⟨r3,b3⟩:=cF r2 b2 eA;have qE:=rN.below eA;have QH:=af r3 0;have f13:=af r3 1;have Cc:=ab r3 0;have vr:=ab r3 1;simp only[List.getElem?_toArray,List.getElem?_cons_zero,List.getElem?_cons_succ]at Cc vr;have XX:=lt_of_heap r3))
 obtain⟨hu,bu⟩:=fL r3 (.string ⟨#[]⟩) (.slice none 0 0) b3 (Nat.le_refl _)
 exact bodyPost_ret (v:=.tuple #[.agg #[.string ⟨#[]⟩,.slice none 0 0],.int .i64 3,.int .i64 p]) (by simp[results,Tryz.results56,go_sem,ab hu]) rfl ⟨rfl,bu⟩
theorem RQ(s:ByteArray)(w:World)(cE:s.size≤600)(rs:List Ax.br)(j:Nat)(HR:Hid (Ax.bU (Ax.split s) (Ax.split s).length 0 []=(some rs,j)))(HF:Hid (rs.length≤1000∧∀r,r∈rs→Ax.Fits 600 1000 r))(H3:Hid (Ax.cz 0 [] rs=none))(p:Nat)(H4:Hid (Ax.dE [] (rs.flatMap Ax.br.atoms)=some p)):
 Calls Tryz.prog 56 #[.string s] w fun e w'=>e=.returned (.tuple #[.agg #[.string ⟨#[]⟩,.slice none 0 0],.int .i64 4,.int .i64 p])∧Below w.heap.size w w':=by
 have Cd:¬(600:Int)<(s.size:Int):=by omega
 have ud:=Tryz.po
 go_enter Tryz.func56,Tryz.ntmps56
 go_wp2_with (first | (go_at_call 102;refine(iU s _ (by omega)).mono ?_;rintro e w0 ⟨rfl,bL⟩) | (go_at_call 103;refine(kg s _ (by omega)).mono ?_;rintro e w1 ⟨v1,rfl,bq,a8⟩;obtain⟨td,tc,rfl⟩:=ah bq;obtain⟨r1,Kz,R0⟩:=gK (bL.trans (a8.mono bL.size))) | (go_at_call 104;have wo:=dd.first (s:=s) (td:=td) (tc:=tc) bq cE;refine(kJ _ _ _ _ _ _ _ wo HR).mono ?_;rintro e w2 ⟨rd,rc,l,rfl,hl,iz,dM,mu,rM⟩;have yD:=aI.len hl.out HF;have nK:=aI.kM hl.out HF;have rN:=aI.rX mu rM hl.out HF;obtain⟨r2,b2,GF⟩:=gD r1 Kz dM;have Sj:=af r2 0;have f12:=af r2 1;have C1:=ab r2 0;have xD:=ab r2 1;simp only[List.getElem?_toArray,List.getElem?_cons_zero,List.getElem?_cons_succ]at C1 xD;have Sc:=lt_of_heap r2) | (go_at_call 106;refine(eM _ _ _ _ rN (by rw[hl.out];exact H3.out)).mono ?_;rintro e w3 ⟨rfl,eA⟩;obtain⟨r3,b3⟩:=cF r2 b2 eA;have qE:=rN.below eA;have QH:=af r3 0;have f13:=af r3 1;have Cc:=ab r3 0;have vr:=ab r3 1;simp only[List.getElem?_toArray,List.getElem?_cons_zero,List.getElem?_cons_succ]at Cc vr;have XX:=lt_of_heap r3) | (go_at_call 107;refine(vo _ _ _ _ p qE yD nK (by rw[hl.out];exact H4.out)).mono ?_;rintro e w4 ⟨rfl,kW⟩;obtain⟨r4,b4⟩:=cF r3 b3 kW;have uZ:=qE.below kW;have Py:=af r4 0;have f14:=af r4 1;have zC:=ab r4 0;have tT:=ab r4 1;simp only[List.getElem?_toArray,List.getElem?_cons_zero,List.getElem?_cons_succ]at zC tT;have lt4:=lt_of_heap r4))
 obtain⟨hu,bu⟩:=fL r4 (.string ⟨#[]⟩) (.slice none 0 0) b4 (Nat.le_refl _)
 exact bodyPost_ret (v:=.tuple #[.agg #[.string ⟨#[]⟩,.slice none 0 0],.int .i64 4,.int .i64 p]) (by simp[results,Tryz.results56,go_sem,ab hu]) rfl ⟨rfl,bu⟩
theorem Rl(s:ByteArray)(w:World)(cE:s.size≤600)(rs:List Ax.br)(j:Nat)(HR:Hid (Ax.bU (Ax.split s) (Ax.split s).length 0 []=(some rs,j)))(HF:Hid (rs.length≤1000∧∀r,r∈rs→Ax.Fits 600 1000 r))(H3:Hid (Ax.cz 0 [] rs=none))(H4:Hid (Ax.dE [] (rs.flatMap Ax.br.atoms)=none))(p:Nat)(H5:Hid (Ax.b8 rs=some p)):
 Calls Tryz.prog 56 #[.string s] w fun e w'=>e=.returned (.tuple #[.agg #[.string ⟨#[]⟩,.slice none 0 0],.int .i64 5,.int .i64 p])∧Below w.heap.size w w':=by
 have Cd:¬(600:Int)<(s.size:Int):=by omega
 have ud:=Tryz.po
 go_enter Tryz.func56,Tryz.ntmps56
 go_wp2_with (first | (go_at_call 102;refine(iU s _ (by omega)).mono ?_;rintro e w0 ⟨rfl,bL⟩) | (go_at_call 103;refine(kg s _ (by omega)).mono ?_;rintro e w1 ⟨v1,rfl,bq,a8⟩;obtain⟨td,tc,rfl⟩:=ah bq;obtain⟨r1,Kz,R0⟩:=gK (bL.trans (a8.mono bL.size))) | (go_at_call 104;have wo:=dd.first (s:=s) (td:=td) (tc:=tc) bq cE;refine(kJ _ _ _ _ _ _ _ wo HR).mono ?_;rintro e w2 ⟨rd,rc,l,rfl,hl,iz,dM,mu,rM⟩;have yD:=aI.len hl.out HF;have nK:=aI.kM hl.out HF;have rN:=aI.rX mu rM hl.out HF;obtain⟨r2,b2,GF⟩:=gD r1 Kz dM;have Sj:=af r2 0;have f12:=af r2 1;have C1:=ab r2 0;have xD:=ab r2 1;simp only[List.getElem?_toArray,List.getElem?_cons_zero,List.getElem?_cons_succ]at C1 xD;have Sc:=lt_of_heap r2) | (go_at_call 106;refine(eM _ _ _ _ rN (by rw[hl.out];exact H3.out)).mono ?_;rintro e w3 ⟨rfl,eA⟩;obtain⟨r3,b3⟩:=cF r2 b2 eA;have qE:=rN.below eA;have QH:=af r3 0;have f13:=af r3 1;have Cc:=ab r3 0;have vr:=ab r3 1;simp only[List.getElem?_toArray,List.getElem?_cons_zero,List.getElem?_cons_succ]at Cc vr;have XX:=lt_of_heap r3) | (go_at_call 107;refine(jI _ _ _ _ qE yD nK (by rw[hl.out];exact H4.out)).mono ?_;rintro e w4 ⟨rfl,kW⟩;obtain⟨r4,b4⟩:=cF r3 b3 kW;have uZ:=qE.below kW;have Py:=af r4 0;have f14:=af r4 1;have zC:=ab r4 0;have tT:=ab r4 1;simp only[List.getElem?_toArray,List.getElem?_cons_zero,List.getElem?_cons_succ]at zC tT;have lt4:=lt_of_heap r4) | (go_at_call 108;refine(zo _ _ _ _ p uZ (by rw[hl.out];exact H5.out)).mono ?_;rintro e w5 ⟨rfl,la⟩;obtain⟨r5,b5⟩:=cF r4 b4 la;have f05:=af r5 0;have f15:=af r5 1;have Qd:=ab r5 0;have F3:=ab r5 1;simp only[List.getElem?_toArray,List.getElem?_cons_zero,List.getElem?_cons_succ]at Qd F3;have lt5:=lt_of_heap r5))
 obtain⟨hu,bu⟩:=fL r5 (.string ⟨#[]⟩) (.slice none 0 0) b5 (Nat.le_refl _)
 exact bodyPost_ret (v:=.tuple #[.agg #[.string ⟨#[]⟩,.slice none 0 0],.int .i64 5,.int .i64 p]) (by simp[results,Tryz.results56,go_sem,ab hu]) rfl ⟨rfl,bu⟩
end
/- Read and Check, whole. -/
section
open Go.RowKit
theorem P8(s:ByteArray)(w:World)(cE:s.size≤600)(rs:List Ax.br)(j:Nat)(HR:Hid (Ax.bU (Ax.split s) (Ax.split s).length 0 []=(some rs,j)))(HF:Hid (rs.length≤1000∧∀r,r∈rs→Ax.Fits 600 1000 r))(H3:Hid (Ax.cz 0 [] rs=none))(H4:Hid (Ax.dE [] (rs.flatMap Ax.br.atoms)=none))(H5:Hid (Ax.b8 rs=none)):
 Calls Tryz.prog 56 #[.string s] w fun e w'=>∃rd n rc,e=.returned (.tuple #[.agg #[.string ⟨(dt (Ax.split s)).toArray⟩,.slice rd n rc],.int .i64 0,.int .i64 0])∧Below w.heap.size w w':=by
 have Cd:¬(600:Int)<(s.size:Int):=by omega
 have UP:=Ax.gO s
 have re:Hid (∀t,t∈Ax.split s→t.text.size≤600):=fun t ht=>Nat.le_trans (Ax.mX s t ht) cE
 go_enter Tryz.func56,Tryz.ntmps56
 go_wp2_with (first | (go_at_call 102;refine(iU s _ (by omega)).mono ?_;rintro e w0 ⟨rfl,bL⟩) | (go_at_call 103;refine(kg s _ (by omega)).mono ?_;rintro e w1 ⟨v1,rfl,bq,a8⟩;obtain⟨td,tc,rfl⟩:=ah bq;obtain⟨r1,Kz,R0⟩:=gK (bL.trans (a8.mono bL.size))) | (go_at_call 104;have wo:=dd.first (s:=s) (td:=td) (tc:=tc) bq cE;refine(kJ _ _ _ _ _ _ _ wo HR).mono ?_;rintro e w2 ⟨rd,rc,l,rfl,hl,iz,dM,mu,rM⟩;have yD:=aI.len hl.out HF;have nK:=aI.kM hl.out HF;have rN:=aI.rX mu rM hl.out HF;obtain⟨r2,b2,GF⟩:=gD r1 Kz dM;have Sj:=af r2 0;have f12:=af r2 1;have C1:=ab r2 0;have xD:=ab r2 1;simp only[List.getElem?_toArray,List.getElem?_cons_zero,List.getElem?_cons_succ]at C1 xD;have Sc:=lt_of_heap r2) | (go_at_call 106;refine(eM _ _ _ _ rN (by rw[hl.out];exact H3.out)).mono ?_;rintro e w3 ⟨rfl,eA⟩;obtain⟨r3,b3⟩:=cF r2 b2 eA;have qE:=rN.below eA;have QH:=af r3 0;have f13:=af r3 1;have Cc:=ab r3 0;have vr:=ab r3 1;simp only[List.getElem?_toArray,List.getElem?_cons_zero,List.getElem?_cons_succ]at Cc vr;have XX:=lt_of_heap r3) | (go_at_call 107;refine(jI _ _ _ _ qE yD nK (by rw[hl.out];exact H4.out)).mono ?_;rintro e w4 ⟨rfl,kW⟩;obtain⟨r4,b4⟩:=cF r3 b3 kW;have uZ:=qE.below kW;have Py:=af r4 0;have f14:=af r4 1;have zC:=ab r4 0;have tT:=ab r4 1;simp only[List.getElem?_toArray,List.getElem?_cons_zero,List.getElem?_cons_succ]at zC tT;have lt4:=lt_of_heap r4) | (go_at_call 108;refine(fZ _ _ _ _ uZ (by rw[hl.out];exact H5.out)).mono ?_;rintro e w5 ⟨rfl,la⟩;obtain⟨r5,b5⟩:=cF r4 b4 la;have N5:=((iz.below eA).below kW).below la;have q0:=ab N5.1 0;simp only[List.getElem?_toArray,List.getElem?_cons_zero]at q0;have q1:=lt_of_heap N5.1;have f05:=af r5 0;have f15:=af r5 1;have Qd:=ab r5 0;have F3:=ab r5 1;simp only[List.getElem?_toArray,List.getElem?_cons_zero,List.getElem?_cons_succ]at Qd F3;have lt5:=lt_of_heap r5) | (go_at_call 109;refine(pV _ _ _ _ _ N5.2.1 (by omega) re.out).mono ?_;rintro e w6 ⟨rfl,ot⟩;obtain⟨r6,b6⟩:=cF r5 b5 ot;have f06:=af r6 0;have f16:=af r6 1;have k06:=ab r6 0;have QO:=ab r6 1;simp only[List.getElem?_toArray,List.getElem?_cons_zero,List.getElem?_cons_succ]at k06 QO;have lt6:=lt_of_heap r6))
 obtain⟨hu,bu⟩:=fL r6 (.string ⟨(dt (Ax.split s)).toArray⟩) (.slice rd l.length rc) b6 (Nat.le_refl _)
 exact bodyPost_ret (v:=.tuple #[.agg #[.string ⟨(dt (Ax.split s)).toArray⟩,.slice rd l.length rc],.int .i64 0,.int .i64 0]) (by simp[results,Tryz.results56,go_sem,ab hu]) rfl ⟨_,_,_,rfl,bu⟩
theorem L5(s:ByteArray)(w:World)(hs:s.size≤maxLen):
 Calls Tryz.prog 56 #[.string s] w fun e w'=>∃rd n rc,e=.returned (.tuple #[.agg #[.string (Ax.read s).1,.slice rd n rc],.int .i64 (Ax.read s).2.1,.int .i64 (Ax.read s).2.2])∧Below w.heap.size w w':=by
 by_cases Cd:600<s.size
 · rw[Ax.UQ Cd]
   refine(Rj s w hs Cd).mono ?_
   rintro e w' ⟨rfl,hb⟩
   exact⟨_,_,_,rfl,hb⟩
 have cE:s.size≤600:=by omega
 have UP:=Ax.gO s
 rcases hR:Ax.bU (Ax.split s) (Ax.split s).length 0 []with⟨_ | rs,j⟩
 · have hj:=Ax.Ai (Ax.qH s) _ _ _ (Ax.AM s) hR
   have ht:(Ax.split s)[j]?=some (Ax.split s)[j]:=List.getElem?_eq_getElem hj
   rw[Ax.NZ Cd hR ht]
   refine(Rf s w cE j hR _ ht).mono ?_
   rintro e w' ⟨rfl,hb⟩
   exact⟨_,_,_,rfl,hb⟩
 · have kD:=Ax.oa (M:=600) (fun t ht=>Nat.le_trans (Ax.mX s t ht) cE) _ _ _ (fun _ h=>by cases h) hR
   have HF:rs.length≤1000∧∀r,r∈rs→Ax.Fits 600 1000 r:=by
    refine⟨by have:=kD.2;simp only[List.length_nil,Nat.zero_add]at this;omega,fun r hr=> ?_⟩
    have:=kD.1 r hr
    exact⟨by have:=this.1;omega,this.2⟩
   cases h3:Ax.cz 0 [] rs with
   | some p=>
    rw[Ax.L4 Cd hR h3]
    refine(QP s w cE rs j hR HF p h3).mono ?_
    rintro e w' ⟨rfl,hb⟩
    exact⟨_,_,_,rfl,hb⟩
   | none=>
    cases h4:Ax.dE [] (rs.flatMap Ax.br.atoms)with
    | some p=>
     rw[Ax.O9 Cd hR h3 h4]
     refine(RQ s w cE rs j hR HF h3 p h4).mono ?_
     rintro e w' ⟨rfl,hb⟩
     exact⟨_,_,_,rfl,hb⟩
    | none=>
     cases h5:Ax.b8 rs with
     | some p=>
      rw[Ax.OB Cd hR h3 h4 h5]
      refine(Rl s w cE rs j hR HF h3 h4 p h5).mono ?_
      rintro e w' ⟨rfl,hb⟩
      exact⟨_,_,_,rfl,hb⟩
     | none=>
      rw[Ax.Hb Cd hR h3 h4 h5]
      refine(P8 s w cE rs j hR HF h3 h4 h5).mono ?_
      rintro e w' ⟨rd,n,rc,rfl,hb⟩
      exact⟨rd,n,rc,rfl,hb⟩
end
/- Read of a program's text hands on its rules. -/
section
open Go.RowKit
theorem aI.kept{w w':World}{S:List Nat}{rd:Option Addr}{rc:Nat}{l:List MR}(h:aI w rd rc l)(hk:Kb S w w')(hS:∀b cur U,b∈S→w.heap[b]?=some (.cells cur U (0,0))→U≠222∧U≠219∧U≠310):aI w' rd rc l:=by
 have hT:∀x:MA,MA.ok w x→MA.ok w' x:=fun x hx=>by
  refine hk.row hx ?_
  intro b hb hm
  obtain⟨cur,e⟩:=aH hx hb
  exact(hS b cur _ hm e).2.2 rfl
 refine⟨hk.row h.1 ?_,fun r hr=>⟨hT _ (h.2.1 r hr).1,hk.row (h.2.1 r hr).2.1 ?_,fun x hx=>hT x ((h.2.1 r hr).2.2 x hx)⟩,h.2.2⟩
 · intro b hb hm
   obtain⟨cur,e⟩:=aH h.1 hb
   exact(hS b cur _ hm e).1 rfl
 · intro b hb hm
   obtain⟨cur,e⟩:=aH (h.2.1 r hr).2.1 hb
   exact(hS b cur _ hm e).2.1 rfl
theorem aI.NL{w2:World}{k:Nat}{a b:Value}{T:TypeId}(r2:w2.heap[k]?=some (.cells #[a,b] T (0,0)))(c d:Value){rd:Option Addr}{rc:Nat}{l:List MR}(h:aI w2 rd rc l)(h1:T≠222)(h2:T≠219)(h3:T≠310):aI ((w2.setCell ⟨k,0,none⟩ c).setCell ⟨k,1,none⟩ d) rd rc l:=by
 refine h.kept ((Kb.setCell w2 ⟨k,0,none⟩ c).trans (Kb.setCell _ ⟨k,1,none⟩ d)) ?_
 intro q cur U hq e
 simp only[List.mem_singleton]at hq
 rw[hq,r2]at e
 simp only[Option.some.injEq,Obj.cells.injEq]at e
 rw[←e.2.1]
 exact⟨h1,h2,h3⟩
theorem He(s:ByteArray)(w:World)(cE:s.size≤600)(rs:List Ax.br)(j:Nat)(HR:Hid (Ax.bU (Ax.split s) (Ax.split s).length 0 []=(some rs,j)))(HF:Hid (rs.length≤1000∧∀r,r∈rs→Ax.Fits 600 1000 r))(H3:Hid (Ax.cz 0 [] rs=none))(H4:Hid (Ax.dE [] (rs.flatMap Ax.br.atoms)=none))(H5:Hid (Ax.b8 rs=none)):
 Calls Tryz.prog 56 #[.string s] w fun e w'=>∃rd rc l,e=.returned (.tuple #[.agg #[.string ⟨(dt (Ax.split s)).toArray⟩,.slice rd l.length rc],.int .i64 0,.int .i64 0])∧l.map MR.aw=rs∧aI w' rd rc l∧Below w.heap.size w w':=by
 have Cd:¬(600:Int)<(s.size:Int):=by omega
 have UP:=Ax.gO s
 have re:Hid (∀t,t∈Ax.split s→t.text.size≤600):=fun t ht=>Nat.le_trans (Ax.mX s t ht) cE
 go_enter Tryz.func56,Tryz.ntmps56
 go_wp2_with (first | (go_at_call 102;refine(iU s _ (by omega)).mono ?_;rintro e w0 ⟨rfl,bL⟩) | (go_at_call 103;refine(kg s _ (by omega)).mono ?_;rintro e w1 ⟨v1,rfl,bq,a8⟩;obtain⟨td,tc,rfl⟩:=ah bq;obtain⟨r1,Kz,R0⟩:=gK (bL.trans (a8.mono bL.size))) | (go_at_call 104;have wo:=dd.first (s:=s) (td:=td) (tc:=tc) bq cE;refine(kJ _ _ _ _ _ _ _ wo HR).mono ?_;rintro e w2 ⟨rd,rc,l,rfl,hl,iz,dM,mu,rM⟩;have yD:=aI.len hl.out HF;have nK:=aI.kM hl.out HF;have rN:=aI.rX mu rM hl.out HF;obtain⟨r2,b2,GF⟩:=gD r1 Kz dM;have Sj:=af r2 0;have f12:=af r2 1;have C1:=ab r2 0;have xD:=ab r2 1;simp only[List.getElem?_toArray,List.getElem?_cons_zero,List.getElem?_cons_succ]at C1 xD;have Sc:=lt_of_heap r2) | (go_at_call 106;refine(eM _ _ _ _ rN (by rw[hl.out];exact H3.out)).mono ?_;rintro e w3 ⟨rfl,eA⟩;obtain⟨r3,b3⟩:=cF r2 b2 eA;have qE:=rN.below eA;have QH:=af r3 0;have f13:=af r3 1;have Cc:=ab r3 0;have vr:=ab r3 1;simp only[List.getElem?_toArray,List.getElem?_cons_zero,List.getElem?_cons_succ]at Cc vr;have XX:=lt_of_heap r3) | (go_at_call 107;refine(jI _ _ _ _ qE yD nK (by rw[hl.out];exact H4.out)).mono ?_;rintro e w4 ⟨rfl,kW⟩;obtain⟨r4,b4⟩:=cF r3 b3 kW;have uZ:=qE.below kW;have Py:=af r4 0;have f14:=af r4 1;have zC:=ab r4 0;have tT:=ab r4 1;simp only[List.getElem?_toArray,List.getElem?_cons_zero,List.getElem?_cons_succ]at zC tT;have lt4:=lt_of_heap r4) | (go_at_call 108;refine(fZ _ _ _ _ uZ (by rw[hl.out];exact H5.out)).mono ?_;rintro e w5 ⟨rfl,la⟩;obtain⟨r5,b5⟩:=cF r4 b4 la;have N5:=((iz.below eA).below kW).below la;have acF:=uZ.below la;have q0:=ab N5.1 0;simp only[List.getElem?_toArray,List.getElem?_cons_zero]at q0;have q1:=lt_of_heap N5.1;have f05:=af r5 0;have f15:=af r5 1;have Qd:=ab r5 0;have F3:=ab r5 1;simp only[List.getElem?_toArray,List.getElem?_cons_zero,List.getElem?_cons_succ]at Qd F3;have lt5:=lt_of_heap r5) | (go_at_call 109;refine(pV _ _ _ _ _ N5.2.1 (by omega) re.out).mono ?_;rintro e w6 ⟨rfl,ot⟩;obtain⟨r6,b6⟩:=cF r5 b5 ot;have aeb:=acF.below ot;have f06:=af r6 0;have f16:=af r6 1;have k06:=ab r6 0;have QO:=ab r6 1;simp only[List.getElem?_toArray,List.getElem?_cons_zero,List.getElem?_cons_succ]at k06 QO;have lt6:=lt_of_heap r6))
 obtain⟨hu,bu⟩:=fL r6 (.string ⟨(dt (Ax.split s)).toArray⟩) (.slice rd l.length rc) b6 (Nat.le_refl _)
 have aaY:=aI.NL r6 (.string ⟨(dt (Ax.split s)).toArray⟩) (.slice rd l.length rc) aeb (by decide) (by decide) (by decide)
 exact bodyPost_ret (v:=.tuple #[.agg #[.string ⟨(dt (Ax.split s)).toArray⟩,.slice rd l.length rc],.int .i64 0,.int .i64 0]) (by simp[results,Tryz.results56,go_sem,ab hu]) rfl ⟨_,_,l,rfl,hl.out,aaY,bu⟩
end
/- Preds: what stands in the rules, collected. -/
section
open Go.RowKit
def pC(a:Ax.Atom):Pd.Pr:=(a.pred,a.ag.length)
def aB(l:List Pd.Pr):List Value:=l.flatMap fun p=>[.string p.1,.int .i64 p.2]
theorem lS(l:List Pd.Pr):(aB l).length=l.length*2:=by
 induction l with
 | nil=>rfl
 | cons a l ih=>simp[aB]at ih ⊢;omega
theorem yZ(a b:List Pd.Pr):aB (a++b)=aB a++aB b:=by simp[aB]
theorem eD(p:Pd.Pr)(b:List Pd.Pr):aB (p::b)=.string p.1:: .int .i64 p.2::aB b:=rfl
theorem aT(l:List Pd.Pr)(k:Nat)(h:k<l.length):(aB l)[k*2]?=some (.string (l[k]).1)∧(aB l)[k*2+1]?=some (.int .i64 (l[k]).2):=by
 induction l generalizing k with
 | nil=>simp at h
 | cons a l ih=>
  cases k with
  | zero=>simp[eD]
  | succ k=>
   have:=ih k (by simpa using h)
   rw[eD,show(k+1)*2=k*2+1+1 by omega,show k*2+1+1+1=(k*2+1)+1+1 by omega]
   simpa using this
theorem Tryz.M8:(Tryz.prog.info? 112).map (fun i=>(i.zero,i.size,i.bytes))=some (some (.agg #[.string ByteArray.empty,.int .i64 0]),2,24):=by kernel_rfl
def bP(rs:List Ax.br):List Pd.Pr:=(rs.flatMap Ax.br.atoms).map pC
theorem Lq{l:List MR}(h:∀r,r∈l→r.body.length≤1000):(bP (l.map MR.aw)).length≤1001*l.length:=by
 induction l with
 | nil=>simp[bP]
 | cons r l ih=>
  have h1:=ih (fun x hx=>h x (by simp[hx]))
  have h2:=h r (by simp)
  unfold bP at h1 ⊢
  simp only[List.map_cons,List.flatMap_cons,List.map_append,List.length_append,List.length_map]at h1 ⊢
  have e:(Ax.br.atoms r.aw).length=r.body.length+1:=by simp[Ax.br.atoms,MR.aw]
  rw[e,List.length_cons]
  omega
theorem F6{l:List MR}{k:Nat}(h:k<l.length):bP ((l.take (k+1)).map MR.aw)=bP ((l.take k).map MR.aw)++((l[k]).aw.atoms).map pC:=by
 have e:(l.take (k+1)).map MR.aw=(l.take k).map MR.aw++[(l[k]).aw]:=by
  rw[List.take_add_one,List.getElem?_eq_getElem h,List.map_append]
  rfl
 unfold bP
 rw[e,List.flatMap_append,List.map_append]
 simp
def Ab(w wr:World)(v:Value)(P:List Pd.Pr):Prop:=wr.ownsRow w.heap.size 112 2 v P.length (aB P)∧Below w.heap.size w wr
theorem Qw{w w1 w2:World}{qd:Option Addr}{qc:Nat}{P:List Pd.Pr}{p:Pd.Pr}{v2:Value}{o1 o2:Obj}(h:Ab w w1 (.slice qd P.length qc) P)
 (aR:w2.ownsRow w.heap.size 112 2 v2 (P.length+1) (aB P++[.string p.1,.int .i64 p.2]))(bG:((w1.alloc o1).alloc o2).grownBy w2 (Value.ownBlock (.slice qd P.length qc))){w0:World}(ho:Lib.OthersKept 112 none w0 w1):
 Ab w w2 v2 (P++[p])∧Lib.OthersKept 112 none w0 w2:=by
 have hs:=h.2.size
 refine⟨⟨?_,((h.2.alloc hs _).alloc (by simp;omega) _).grown bG (by simp;omega) (fun k hk=>(h.1.lt k hk).1)⟩,((ho.alloc _).alloc _).grown bG (bj ((h.1.alloc _).alloc _))⟩
 rw[yZ,List.length_append]
 exact aR
end
end Go.Proofs.YtdmicblafmhflaaGreatDoor
