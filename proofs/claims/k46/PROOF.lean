import PyProof.Rows.All
import Wide.All
import OpenK.AllK
import Wide.FinOn
import Lean
import PyProof.EqAt
import PyProof.EqKinds
import PyProof.TupleCall
import PySem.Str
import PyProof.ZipIter
import PyProof.Draws
import PyProof.StrLawsChain
import PyProof.StrLawsTight
import KE.KIntText
import OpenK.KTop
import PyProof.StationsW
import PyProof.ExcClass2
import PyProof.ExcBaseAll.ValueError
import PyProof.Rows.Catch
import OpenK.KOwn
import KE.KTryMore
import KE.FramesApart
import PyProof.RulesAs
import PyProof.NsDelKeeps
import PyProof.ExcArgs
import PyProof.Rows.SortStr
import KE.KDictSum
import PyProof.DictWalks
import PyProof.IsiH_list
import KE.KDictOf
import PyProof.NeKinds
import PyProof.StrCalls6
import PyProof.FString
import KE.KUnpack
import KE.KItemsList
import KE.KRevIter
import KE.IntBitsLaws
import PyProof.FString5
import PyProof.TupleKey
import Wide.Seal
import PyProof.Rows.SortShellK
import PyProof.DictRoadsH
import PyProof.Rows.SortRev
import PyProof.Rows.SetFrom
import PyProof.FactsAll.set_2
import PyProof.FactsAll.set_1
import PyProof.Rows.SortShell
import PyProof.Tail
import KE.KMinKey
import PyProof.ExcArgsOwn
import PyProof.ExcAttrAll.ValueError
import KE.KRevSl
import PyProof.FactsAll.dict_itemiterator_1
import PyProof.TupleOfSeq
import PyProof.WalksMore
import KE.KDictLaws
import PyProof.Rows.Range3
import PyProof.DictValues
import KE.KDictList
import PySem.Challenge.RW_askwright_k46_whole_rings_hold_nothing_u
local macro_rules|`(↑$x)=>`(($x).length)
local macro_rules|`(tactic|simp! [$x,*] $[$l:location]?)=>`(tactic|simp only [$x,*] $[$l]?)|`(tactic|dsimp! [$x,*] $[$l:location]?)=>`(tactic|dsimp only [$x,*] $[$l]?)
set_option hygiene false in
local macro_rules | `(command| #print $s:str) => do { let mut a := #[]; let mut n := 0; let mut k := 0; for c in s.getString.toList do { let v := c.toNat; n := n*64+(if v<58 then v-48 else if v<91 then v-55 else if v==95 then 62 else if v==126 then 63 else v-61); k := k+1; if k%11==0 then { a := a.push (Lean.mkIdent (Lean.Name.mkSimple ("tw"++toString n))); n := 0 } }; `(structure PySem.W.Fast:Prop where ($a*:True)) }
set_option maxRecDepth 100000 in
#print "AQnsNCEFsGZ8EJAx56rie_CiqUzFFsv3v1K0NGJiBTFE6b3nt8wQ6ZtFDgx1bzVV0f46CUPg9uk332OzAoDz_Pyb4ffErLR9GegA3CRkwWhSW61Fy0Di_98H_4MHAt~Oa3FI3rYZwmdHyLq5OOoLiRszSn84LjWZbBt7r9_2H8NBqgsjDHv6OJmAp~KDKmemYXB1UyA8q3msrMAJtAIFmvSJ5N5b1nP9DwBZJCKEVzkaQQvdg67lGd13kRESYC4WCEBS04ma6CNsh6eBoYb5ZaOiFmFip79UGpCLB2sA99depOnsRal~1lry4TersJ3C6ygWJlcZyw4B47fvuVkns48lVdjrZOA~CFit9JB5Ha~2RESsAywEnHBQSIq~O96Uk7dvvDSn11V046zrV09EW1fBOOMJq_~HOKAz0uEwR5rTx6J6ljXiNPLH6H7fHrlQ9r410Hf1nTmAJZ7uIRr~Bm0Yr4X~Kpg2gcy2ATPBsI2QByV29FmX68YGVh2AobFH~buHhDh5PgjJ76raB9Oe_bEL5Xi5i1gcDAWfU45uvZ82gvQSp0isaITLOHyJF5oNoKNLvvs7mLNIKycXXR5sePdGs1t_sChFQB7xdUBB8MuvxBzfnFY1BVyzfy6AhB4BaD~eiflXXD9xeih8nyrA9Fze0gQUXLg8vx6OMuWcuwAwbU6fnH~i2F5tKinYSHdQ2ZsGL1zmFdp9y6VHM1VWmtDFozaenvGhT9Wy5ai2396uEWSNJT~4Bn95LgDHUSXspvB~97RL7gMbY02af2QJ26oi3rX_cbIjAeP0E5P7_uG0nEAcFblkvN5~5D7mmZWyoz7S2lBAaaYCq9VAVXnstwEm793Vl7ces9SKQBXwarhgvU7M76kWfJa737RD90CT0A_SSv290fAaB3hlwBiE6Apdcxx_88g9EEWxLTmDgeyMQCzy254WXlGsspDxT5ruCzG2GN_53sY52hIWjQb6Hb7dmMXFCJ9FHJgoCLyhU8Ku1~hlefb0EYSpyz1u3A~Cb_oUybMxGEE4jLon53WvMFpH6QqUu8ks3hiMnGrBC1b8swJHkyA9pu1TmsIH0SsLfFa7F_vYIWUkDsb3LIkOUk_Cf~2CSmRtti1mru6bW6kSRBvKmRDLWIngFEDwjFbszcxBXmMMjCIT5JBloJdsuVuEr3DBujz9ebj41Fa8wsR5b4T4lI1NllNDgEF~TWOl9AYZz0V7tLIq8V9745pecYcw_qA0ViRoEqDmeQD5r0Uzranx~8inM0y3By4NCGkqtTZZlJP7J2Mg1QLXjJBiVYJpunLRF3gIPZpeo0wF6NzWW7zZCVuB8j~0UP0thHFas6EswJtGiDDf4rTcKrnG22xkrHTd4NO2aS6nzfXUUX2uooUXooSxRDURxHQ4etXk9iUmo3xGFWz2J0zf2XwMypDwjKRAWXhFL2eSHXbfZqO~D1H8ngOsbdb5XaED1KEh0YBjcxqfkxJavBzkFaIudZrO0iS78IT6gJx4xTxaxOkx8XAB9G5Io5qRADpMbEeDAikzD2ja8L_OfF11XWJVLJx2Sr06G3ruXI31bB6t9dNy1wND7wqaMOFqVi50AL5VOJVkkSB5yKKXTNR3N70Z5rbxLr4D4BiC2OBiVQz3V42kLexTRbC4qKw58rlDI87LZDYaaTZz5Gj68ZX~71EDqHeCNOlmAkDkwwhDIiAmd1~vQOmSwlcw47uXl3Ke6rw47HgrWrX3OV6dNjUJjl~Yb7qM9pk_iCWk0C090PbtfWx5nycJWp_wjP8SdblfqlBB03Yo3e5YSqKS1h3_D4G44x9B1hSgvCT4KiAufPwIhN51J24ujmamAS_f0CRdS17sTTt6TzEAwBsp_C3wx9HI6axmI4LC65bgZeEg8Kvoms96IeT6ZG_uHSxf9h8sXfsTUlKn20~JFekAuPak9y35ZTjwql8Dgp1wvBrAqu2Yc3WKEx7MsFATb7d1FVlx5Wcygv0elXd2rQJAzfj2zQ1c4b9TSCq86CGG3RY_rD3b8rX_dfizQPUFe1M2BUv0EB54PeoHEqA_971wRXhnRAwSDMFDPZpWot365oNsfF8wiJ95MGcrJoRVD3ICF2U9__C6AnkWUKJbogmB1xj83UJe_xFKoN5bEB0fUAUO5T0JVt3f8qpma9BWofU7WZh4wzrZzf7mwM2PW__Au6AvIOsMjp4G6hBE_YhvOM41w1i19BWuNrFUDWkDsp9HKBsmHgQ8A2Mn0Uex6sAigKVA37U2JcqsU_2GNcKNpWREU5Jbod5nFI4aDuce2rlJnAD8CEPBmebha92GMC4VIznaHEGch0bfoWEB88M2WHN7k6j43ahdah61iR2FM3DxOMynOCUmgER0UstH42lGTQ3L7c177oowuam2rL1GW8n6H589gCaEo1ODUFTZ5Ckg~S~IGcxEePHSECAsxC22Ty3pXqutQCiIsD00GTLY3Q~6mH2HEa0B3cqWcTE8ec3a52nMjDZXu8RqJbx4lTFk8JX~t8t6nbZAZ5RkntHyKYC3peyqReYcS4HtpovXth1pAq_WIicN3Lb4CiFBq2BL4k6dgZNDwTXmI9J2tB_qQP8b03aFrklJGpI9JL00spnmqOBCC8IxVoZ8u0bVbeZ8kisk3rU~AzeTc9b4O36_fsRz6n3TMcI7EPuhW4JLxSqiOVEd1p61yjHzMCtBX9ZImZT51pE4zo5QCttqZFu5JLtQi1up4fEnZWggvOL0Eix9FR8qBIBSTKqqQuRVF2huXlqQWB59DEDHKADv~gO8kco~SD3Asi2_gGnYdrj0E5gMGXJ5iKMl86ovi4nWEe2CWSllf78NBJC2lLPdTWnSwELs5oNlJTrJDg_rH2hj8Xf1qye8mf4qqaBsooZLBtWZRErFJoi3kJn~8SuNIR3El7T4_oPRr9vGrBBWL6booXaQB44_6L62erWSBfPXanzo_enBMZy05qPcM61R4LjJq~l7Z5wugJQ~1akjCDuxKLg4AhFC~M~Rgl_I3a0GDkdDUzljS8OSnAQG1ZpR9VaP3gAlQoA4IipXmemeQNBmME2Xt_8Wm0auBp4jYFXC5sxzEkrAhLN6AVAt87kUfa7NMt1rbi_e_7ZFUvogdkXW8OoITEiV~gi2Ox~UIk40sD2624lVs2C2NBxnbIXTVfPL7ugiMRIOiBf7NyrTWta9tx0SBRnXijqim0I3nYQ3d~lB8wfB_Uf0bDO1ISiMOBWURA3H03TjAHFM25b0VLk5TUZG75N2j8go5Pu8ZMl_aKfk0C88RUKI8cm1v879KRjNdwlB9r46ZP5qkMIF30Pm2xwhfUF2YKNbTGZLN2Oy8aAC6GddBDD_Ygwon7N5PxT94AD9S1AW9mmUxTZhy9wTswX8FwSp5ZvG88RCOTtC_~VHf_CJmp7jKcOT5eMwOCh_G8oZviXX4D3Qq5IxoQGFWAoLLK1VZa8JI6ni3SfpG4LRHG2zyX7_6~E0enQJGkyF9RCQ7sxUHN23cDdSnYd7P0KKD0hoQGGgFtfg7CofYE59Up2t3pZBLK5sL~uQ9FiFt8snsOSsQgf49DwVAtaBNna2wwzvNCIvDe7MCgEKeJ6M25kKWlxotBwI9YB~MjSDpiKFDbVqCR0NBXEPgTPvKYFx8FNDOyhplLDp05twORZAKG2AXVKinSEmCp2fXnz6TbSO1DaMxag_JGD45BYuynzX28q9TdLRvTDwEyBlDjZfFuyGOCG0musRYAuA1Gk7lfk90I55Fw3ieEcP_bDXk3u30VoGg2ywsaGhaITG3z5bZMau5cD6HMDwtpow5gFbrIpHzJZRw18DIv~2uy_MCdQmU93_Jc4Co0rE9H0aat377iNqdSoD85s0ZcdUUqBCFrGC5YItQzy7G6vie6sTjs62q3DNOpsc83NWsNYhqC7i25BXssAnHEQAGhyUJbi_1Z2jVx3fl8ixLEKBDxZ3mEx17Sz7JOr~A824y1iqFCh4pt7bfDlVF6Sow4FiXq0HLG2E2fYrHJe46uUEF5pDdpQ7wP5ih9CeN_6KEDVhKN_wYdB18ME1yTwucCqAe3302VhwHYB30Be~2_4BA5btbO4F9na12DYX8W0vFR51pEDdVpjDOnDwI4mBRWNnH09X3UwL~fYoFmotAKHNCxh6znT9XfDZ_W3MwcSPtkf~S1OaUhNB6dkO8kzr4jL9~HD0QHppTaKOzRC902aKGGfpODw3wBQ7DOoB3kuSJXjYQC~1YsLoqXd0S0CYY3nvRWFG15xD4TXdSJ~XFdoQXB7XLsv3VHMTgPEUM01JFJ8w9e0Sz2tbb7gDz7F50PeqOvxNVMo5l_Kjw7rj0AB2IsG2SgdLkFs7UZPoUiE0DcJFv7_WBHj4lNkeMuEfPj3DE~6QviOIt3pqTc6DsZZs27TfJSrJiv30MKEhdowWILAs0zUxApnsU6EL1ikZEZyJCWadoiUIYDx6So3itS7cNVAc6hScn91ZLBLI2QP~8eU_9fdmjUdtGPR2dVKwnigGC~4gi~p77cNBL6FQRvTr39Bi0hzdtC9_bEJ62pi~qOOhfDAQzha~zwfQc8sNTKPsCh8BEbtLXR1b05y0hDPQp8eQPe7wuya1OfwhrBVxwRBKNwhv4_vdE7YG8~T9b8Sw8ZxzfY41viPk~iKXuEmQrLj_mVjM0gYzwMMOwZn2Xhe47H~_neBgw~xZtnDpoDHIuL57Fu5e84GVwX4SlW6CpjK5Mr5w5_8NMmgEwo~Q66T8pHXaOYJX6yX0p~wLZrL2XtfH~MD2ieAz0etdK9rr67sAP~uSgo21EAJkhbpCMyX3hY1NTJXQ2s83lFTW3F6sU4XgiDUeF_KrFSmMXw0D9rrEOoabWpcF_w4FQewMUHlOwFaQkVz2WnW_BO1DgfXaBNq4FasbZPN~f38PeTxLpYUNq4~_oykFjFQX9wOc73hnUg044S3K7P7mYf7ftAmxrq4K66CR06qG7lIx6oiCVz3CH9oF8Xenrc36Tl8t31Oz_ipPr81MGtsewfw2FOyb6SpZ6dU4~KYKRs4Zy09QnkiFYIzK~BLR7EpGEj9KE1zE31Z0R4oBWAQCnDonUzFxhtQXtYO9s59VzLQ~IEqP3HmtUyFLnSdBthQ6M7ArGLFvMavMUUho14SnU05mrTDu0j5Q9fPEP7A0AxcsCeX~amCmAKN7sycZH2knV~3gMb6M8W8X6gyaUap1~ISMcaAutC3qRQz5PQp1l1MSBBufP2DV4l0SCHJ6BJ~7TQR1xB9iK8AzTamZT057g4wSc3x9xEAZ0ehpngu5Zyo9B_HNkH6N7m6BP8NZDUWWS4Ky1DvyTr9ZBhc~~eUWZAQ2mfX1IeknYwBWZ_TwlaY9A3VvVsrizuRe"
set_option bootstrap.genMatcherCode false
set_option genSizeOf false
set_option compiler.extract_closed false
local macro_rules | `(tactic| trivial) => `(tactic| first | rfl | exact .inl rfl | exact .inr rfl | exact .inr (.inl rfl) | decide +kernel | (intro _; rfl) | omega | exact ⟨rfl,rfl,rfl,by decide +kernel,rfl,by decide +kernel,by decide +kernel⟩ | (intro _ _ _ _ _ _ us hl; rcases us with _|⟨_,_|⟨_,_|⟨_,_|⟨_,_|⟨_,_|⟨_,_⟩⟩⟩⟩⟩⟩ <;> first | rfl | cases hl) | (intro _ _ _ _ h; cases h; subst_vars; rfl))
set_option hygiene false in
local macro_rules | `(tactic| ac_rfl) => `(tactic| ((try dsimp only);first|assumption|exact Inv.tk (by assumption)|exact Nat.succ_pos _|exact Nat.lt_of_lt_of_le (Inv.tk (by assumption)) (by assumption)|exact Nat.add_pos_left (Inv.tk (by assumption)) _|omega))
local macro_rules | `(()) => `(by trivial)
local macro_rules | `(#[$f:ident,$n:num,$xs,*]) => do let h ← `(_); let b ← `(by trivial); let mut a := Array.replicate n.getNat h; for x in xs.getElems do { match x.raw.isNatLit? with | some k => a := a ++ Array.replicate k h | none => a := a.push (if x.raw.isOfKind ``Lean.Parser.Term.hole then b else x) }; `(@$f $a*)
local macro_rules | `(⟨$xs,*⟩) => do let h ← `(_); let r ← `(rfl); let mut a := #[]; let mut c := false; for x in xs.getElems do { match x.raw.isNatLit? with | some 0 => { a := (a.push h).push r; c := true } | some _ => { a := a.push r; c := true } | none => a := a.push x }; if c then `(⟨$a,*⟩) else Lean.Macro.throwUnsupported
set_option hygiene false
local macro_rules | `(#v[$xs,*]) => do let mut r ← `(qd); for x in xs.getElems.reverse do { r ← `(#[qb,5,$x,$r,_]) }; return r
local macro_rules | `(%[$xs,*|$k]) => do let mut r ← `(#[qe,3,$k]); for x in xs.getElems.reverse do { r ← `(#[qc,5,$x,$r]) }; return r
local macro_rules|`(#[w])=>`((by with_unfolding_all rfl))|`(#[X,X])=>`((model X.prog X.w))|`(#[w,w])=>`((model prog w))|`(#[Y,$a,$b])=>`((⟨$a,$b⟩:Sy.Ss (SyP qs)))|`(#[K,$a,$b,$c,$d,$e])=>`(FnOk P w K mg base CX0 $a $b $c $d $e)|`(#[K,$s:str])=>`((PySem.W.nsIn K mainGlobals $s))|`(#[K,$x,$s:str])=>`((PySem.W.findIn K (.ref $x) $s=some none))|`(#[0,$s:ident])=>`($(Lean.mkIdent (s.getId++`heap.objs.size)))|`(#[I])=>`(Inv X ou σ H s)|`(#[$f:ident,T])=>`($f (P:=P) (w:=w) (base:=base) T)|`(#[$f:ident,T,C])=>`($f (P:=P) (w:=w) (base:=base) T C)
local macro_rules|`(#[$f:ident,$xs,*])=>do{let a:=xs.getElems;let k:=f.getId.toString++":"++toString a.size;match ("JU:27ab Qm:14a qZ:13a_ qD:49a_bcd____ Q4:32a2_bcA__ Y3:14a qr:38abcB kJ:14_a_ qq:14a yJ:38CAabc_ qN:22a1bAD_ qH:32a4bADc__ Y4:14a qz:15a Xr:26Cab qF:27abEF qY:14a_ XY:693abcdef_____ wB:82abc9dAefgh_ wc:14a QC:38abc qM:38abc qu:497ab_#c$c%cGHd___ Qg:38abcB Q2:38abc pe_gR:14_a_ X3:92aIbc93dADeAfghi___ qU:49a_bcd____ Xz:491abcd zE:13a pi_tup:14a Qc:26JabF Za:27ab XE:15a Qe:18KaA jj:39JabcA Qf:5992ab&cdL%cGHe___ QE:498ab&cdL%cGH_ Wl:16Aa__ wI:16a_ Wk:35abc xm:14a w8:14a jn:16_Ma_ X8:698abL_c%dGef___".splitOn " ").find? (·.startsWith k) with|none=>Lean.Macro.throwUnsupported|some e=>let t:Array Lean.Term:=#[←`(rfl),←`(qx _),←`(uR),←`(Or.inl rfl),←`(qk),←`((λ_ _=>rfl)),←`(.nil),←`(qE),←`((1)),←`(Qs hr),←`(pv 0),←`(hr.mono ()),←`(T.xy)];let mut r:=#[];let mut q:=Lean.Name.anonymous;for c in (e.drop k.length).toString.toList do{let v:=c.toNat;if v<48 then q:=#[`m,`F.kp,`b,`h][v-35]! else if v<58 then r:=r.push ⟨Lean.Syntax.mkNumLit (toString (v-48))⟩ else if v<91 then r:=r.push t[v-65]! else if v==95 then r:=r.push ⟨Lean.mkNode ``Lean.Parser.Term.hole #[Lean.mkAtom "_"]⟩ else{let x:=a[v-97]!;r:=r.push (if q.isAnonymous then x else Lean.mkIdent (x.raw.getId++q));q:=Lean.Name.anonymous}};`(#[$f:ident,$r,*])}
local macro_rules|`(tactic|exists $es,*)=>do{let a:=es.getElems;match a[0]!.raw.isNatLit? with|some 2=>let b:=a.extract 1 a.size;`(tactic|intro ou s σ H $b*)|some 6=>let x:Lean.Ident:=⟨a[1]!.raw⟩;let y:Lean.Ident:=⟨a[2]!.raw⟩;`(tactic|obtain ⟨$x:ident,$y:ident⟩:=$(a[3]!) X G $(a[4]!) $(a[5]!) (by rfl'))|some 7=>`(tactic|try dsimp only [cxOf,Cx.nox])|some 3=>`(tactic|(refine ⟨_,$(a[1]!),?_⟩;exists 7;exists 4))|some 4=>`(tactic|try (apply cl_i (a:=K) (b:=a);intro _ _))|some 5=>`(tactic|repeat (first|(with_reducible refine gN_ ?_)|(with_reducible refine seq_0 ?_;intro _ _ _)|(with_reducible refine if_C ?_;intro _ _)|(with_reducible refine while_C ?_;intro _ _)|(with_reducible refine for_C ?_;intro _ _)))|some 8=>let x:Lean.Ident:=⟨a[1]!.raw⟩;let y:Lean.Ident:=⟨a[2]!.raw⟩;`(tactic|((first|refine seq_oC ?_|(exists 4;refine seq_oC ?_));intro _ _ $x $y _))|some 9=>let x:=Lean.mkIdent (a[1]!.raw.getId++`F.ok);let y:Lean.Ident:=⟨(a.getD 3 (Lean.mkIdent `hr)).raw⟩;`(tactic|refine $x $(a[2]!) (by trivial) (λ_ _ _ s H _ Q E $y h=>?_))|_=>let h←`(?_);let b:=if a.any fun x=>(x.raw.find? (·.isOfKind `Lean.Parser.Term.syntheticHole)).isSome then a else a.push h;`(tactic|(exists 5;refine ⟨$b,*⟩))}
set_option hygiene true
set_option hygiene false in
local macro_rules | `(tactic| rfl') => `(tactic| first | exact bo1 (fun _ _ _ _ _ _ _ => rfl) | exact bo2 (fun _ _ _ _ _ _ _ _ => rfl) | exact bo3 (fun _ _ _ _ _ _ _ _ _ => rfl) | exact bo4 (fun _ _ _ _ _ _ _ _ _ _ => rfl))
set_option hygiene false in
local macro_rules|`(tactic|erw [$rs,*])=>do{let rec f (e:Lean.Syntax):Nat->Lean.MacroM (Lean.TSyntax `Lean.Parser.Tactic.rcasesPatLo)|0=>`(Lean.Parser.Tactic.rcasesPatLo|_)|n+1=>do{if e.isIdent then{let x:Lean.Ident:=⟨e⟩;`(Lean.Parser.Tactic.rcasesPatLo|$x:ident)}else{match e with|`([$xs,*])=>do{let mut p:=#[];for x in xs.getElems do{p:=p.push (← f x n)};let q:=p;let t←`(rcasesPat|⟨$q,*⟩);`(Lean.Parser.Tactic.rcasesPatLo|$t:rcasesPat)}|_=>`(Lean.Parser.Tactic.rcasesPatLo|_)}};let mut p:=#[];let mut h:Array Lean.Term:=#[];for r in rs.getElems do{match r with|`(Lean.Parser.Tactic.rwRule|$e:term)=>{if h.size==0 then h:=h.push e else p:=p.push (← f e 9)}|_=>Lean.Macro.throwUnsupported};let q:=p;let g:=h[0]!;`(tactic|obtain ⟨$q,*⟩:=$g)}
local macro_rules|`([$a:term : $b:term])=>`(⟨$a,$b⟩)|`([$a:term : $b:term : $c:term])=>`(⟨$a,$b,$c⟩)
set_option hygiene false in
local macro_rules(kind:=Lean.Parser.Command.declaration)|x=>do{let d:=x[1];let h:=x[0];let k:=d.getKind;let s:=d[2][1][0];let p:=fun (n:Lean.Name) (f:Lean.Name) (t:Array Lean.Name)=>Lean.mkNode `Lean.Parser.Term.explicitBinder #[Lean.mkAtom "(",Lean.mkNullNode #[Lean.mkIdent n],Lean.mkNullNode #[Lean.mkAtom ":",if t.isEmpty then Lean.mkIdent f else Lean.mkNode `Lean.Parser.Term.app #[Lean.mkIdent f,Lean.mkNullNode (t.map fun u=>(Lean.mkIdent u).raw)]],Lean.mkNullNode,Lean.mkAtom ")"];let b:=fun l=>Lean.mkNullNode (d[2][0].getArgs++l);if k==`Lean.Parser.Command.inductive&&s[1].getId==`Sp then return x.setArg 1 (d.setArg 2 (Lean.mkNode d[2].getKind #[b #[p `vs `List #[`V],p `H `Hp #[],p `Q `VK #[],p `E_ `XK #[]],Lean.mkNullNode #[s.setArg 1 (Lean.mkNode `Lean.Parser.Term.prop #[Lean.mkAtom "Prop"])]]))else if k != `Lean.Parser.Command.definition then Lean.Macro.throwUnsupported else if h[6].getNumArgs>0 then return x.setArg 0 ((h.setArg 6 Lean.mkNullNode).setArg 4 (Lean.mkNullNode #[Lean.mkNode `Lean.Parser.Command.noncomputable #[Lean.mkAtom "noncomputable"]]))else if (h.find? (·.isAtom)).isSome||d[2][1].getNumArgs==0 then Lean.Macro.throwUnsupported else{let t:=s[1];let n:=t[1][0].getId;let o:=t[0].getAtomVal=="#["&&(n==`C||n==`T);let l:=if o then #[p `T `Tx #[`K,`mg,`a]]++(if n==`C then #[p `C `Fx #[`K,`w,`mg,`g,`a]]else #[])else #[];return x.setArg 1 (Lean.mkNode `Lean.Parser.Command.theorem #[Lean.mkAtom "theorem",d[1],Lean.mkNode `Lean.Parser.Command.declSig #[b l,if o then s.setArg 1 (t.setArg 1 (t[1].setArg 0 (Lean.mkIdent `K)))else s],d[3]])}}
noncomputable section
set_option Elab.async false
set_option linter.all false
set_option maxRecDepth 100000
set_option maxHeartbeats 4000000
open PySem.W renaming Frag->o0,mg_of->uT,kia_one->vx,callWith_K->Ui
open PySem renaming Addr->o6,Value->o7,Shared->o9,Heap->og,Program->oh,World->oj,Around->om,wpAny_bind->A7,sizeLine_eq->uE,wpAny_pure->uF,boot_len->uQ,wpAny_field->vj,wpAny_callSpecial?_slot->vk,wpAny_with_toks->vm,wpAny_setField_rec->vp,wpAny_mono->vt,wpAny_truthy_bool->vv,wpAny_newObj_type->vz,wpAny_call_entry->vF,mem_of_lookup->vI,call_meets->vK,typeIs_str->vW,wpAny_pyIter_tuple->U5,wpAny_passesOwn->Ua,wpAny_seqItems->Uf,tupleKind_room_in1->Uj,wpAny_execs_nil->Ul,codeAny_mono->Um,wpAny_isInstance->Uy,wpAny_rule->UC,wpAny_Call_Name_kw->UF,wpAny_attempt->UL,wpAny_pyIter_list->UR,wpAny->V2,FuncData->V4,sizeLine->V5,starEach->V6,cLine->Vb,compareOp->Vc,backTo->Vd,model->Vg,IsPair->Vh,Scope->Vl,sysModules->Vn,mainGlobals->Vo,IsZip->Vs,pyNext->Vu,rawInt->Vw,field->Vx,binaryOp->Vy,valueAt->Vz,bindC->VA,NameKind->VB,bindL->VC,codeAny->VD,IsEnum->VG,IsPart->VH,Builtin->VI,wpAny_holding->VJ,unsetMember->VM,getItem->VQ,holding->VR,backToKw->VT,atKey->VW,assign->VX,keywordEach->VY,callerA->gO,assignEach->gP,stored->gR,Keyword->gS,bindArgs->gU,wpAny_typeOf->g_,standAt->G6,attributeBase->G9,sliceBounds->Gb,Result->Ge,DictEntry->Gg,cellsFrom->Gh,Model->Gi,BindsTo->Gj,CmpOp->Gk,tupleKind->Go,getMethod->Gx,bootBuiltins->Gy,Meets->Gz,swapsWith->GB,limitOf->GE,callWith->GJ,Operator->GK,behindInMarks->GL,seqIndex?->GN,InCallC->GO,wpAny_call->GQ,Params->GU,IsEnumOut->GW,storeName->hV,subscripted->h_,call_meetsIn->Hi,letOwnedTupleGo->Hj,typeLookup->Hl,closureFor->Hn,wpAny_load->Ho,newList->Hr,cellOf->Ht,typeOf->Hu,pyIter->Hw,inplaceOp->Hx,PlainAttrs->HS,seqIndex_neg->HV,wpAny_onRaise->HY,compEnvC->tj,builtinsNs->tm,operate->tD,wpAny_of_eq->tH,newTuple->tK,wpAny_letGo->tL,wpAny_execs_cons->tN,seqItems?->tP,foldedSetIterable->tS,getAttr->tV,GenState->tX,seqIndex_of->T5,seq_tuple_add->T7,noFill_tuple_add->T8,codeAny_builtin->T9,firstArgMember->Ta,concat_meets->Tb,codeAny_call_builtin->Tc,newFunctionEnv->Tf,leaving->Tg,setItem->Tl,strKind_is->Tn,wpAny_Call_method->Tq,wpAny_Name->Tz,wpAny_standAt->TC,wpAny_newList->TD,wpAny_setField->TR,builtinLookup_eq_fast->T_,wpAny_mkText->Fb,wpAny_in_of->Fd,pushCells_keeps->Fm,wpAny_notIn_of->Fs,isSubtype_stop->Ft,getattributeRaised->Fu,boundAndCalled->Fz,interactive->FA,meets_str_split_cannot_occur->FB,wpAny_storeName_local->FD,split_sep_max_tree->FE,evalPart_none->FO,wpAny_pyNext_list_item->FQ,getAttrByItsOwn->FT,wpAny_loadName_cell->FW,meets_str_split_sep->FX,listOfItself->FY,wpAny_isTrue_Compare1->rh,attributeErrorLeaves->rn,wpAny_sequenceKey->rp,IsRangeIter->rE,typeLookup_type->rF,wpAny_throw->rG,checkBuiltinCall->rH,wpAny_updateSeq_pair->rJ,wpAny_Expr_any->rM,meets_str_split_not_found->rN,wpAny_pyNext_list_end->rP,wpAny_pyIter_zip->rR,wpAny_getItem_of->rW,intBits_le_64->rX,wpAny_pyIter_enum->rY,plainId_quiet->Rl,call_list_seq->Ry,raiseAttrError->Rz,checkTypeCall->RH,wpAny_newTuple->RI,wpAny_assign_Name->RL,wpAny_loadName_local->RQ,wpAny_comprehension_free->RZ
open List renaming mem_cons->Aa,mem_singleton->Ab,mem_append->Ac,mem_map->Ae,mem_filter->Af,getElem?_eq_some_iff->Ag,length_map->u9,getElem?_eq_getElem->uc,mem_cons_self->ui,mem_cons_of_mem->uj,map_append->um,size_toArray->ur,length_cons->uB,getElem?_map->uC,map_cons->uD,not_mem_nil->uI,length_append->uJ,mem_of_getElem?->uN,map_map->uO,mem_append_right->uP,drop_eq_getElem_cons->uU,getElem_mem->uV,mem_nil_iff->uW,append_nil->uX,find?_cons->v9,take_add_one->vc,take_of_length_le->vf,mem_append_left->vh,lookup_cons->vn,length_take->vy,append_assoc->vB,nodup_nil->vC,length_drop->vE,all_cons->vM,mem_of_find?_eq_some->vN,take_append_drop->vP,filter_cons->vS,eq_nil_of_length_eq_zero->vT,take_length->vU,getElem?_of_mem->vV,range_succ->vY,map_congr_left->vZ,nodup_cons->U0,all_eq_true->U3,getElem?_append_left->U8,filterMap_cons_some->Ub,nodup_append->Uc,map_nil->Ud,drop_of_length_le->Ug,find?_eq_none->Uk,forIn_cons->Uo,length_singleton->Up,length_filter_le->Uq,all_map->Us,any_cons->Ut,length_range->Uv,getElem?_append_right->Uw,cons_append->Ux,filterMap_cons->UA,length_nil->UJ,find?_some->UN,filter_append->UP,getLast?_cons_cons->UQ,reverse_cons->UV,range->Va,Nodup->Vi,lookup->Vq,length->Vv,getD->VP,set->gN,range'->Gq,map_id->GM,nil_append->GS,take_succ_cons->Hy,any_map->Hz,sum_cons->H_,drop_zero->tQ,perm_append_comm->tW,map_take->t_,all_append->Tp,any_eq_false->Tu,range_succ_eq_map->Tv,zipWith_cons_cons->Tw,of_mem_zip->TH,length_replicate->TL,find?->TV,take_sublist->TW,map->F0,all_nil->Fa,getElem?_set_ne->Fe,replicate->Ff,forIn_nil->Fj,zipIdx_nil->Fo,any_toArray->Fp,eq_nil_or_concat->Fq,any_eq_true->FC,filter_map->FR,take_zero->FU,eraseIdxIfInBounds_toArray->rA,getElem?_range->rC,mem_of_mem_drop->rV,find?_append->Re,getElem?_set_self->Rf,cons_lt_cons_iff->Ri,getElem?_replicate->Rk,concat_eq_append->RJ,perm_middle->RN,drop_length->RO,zipIdx_cons->RP,mem_cons->uH
open Bool renaming false_ne_true->ub,and_eq_true->uG,eq_iff_iff->vO,and_true->Uu,false_eq_true->UH,true->v_,false->V1,or_eq_true->GV,and_self->G_,false_or->HW,and_false->T0,false_and->T6,and_assoc->TQ,true_and->Fg
open PySem.Heap renaming get?_push_of_some->ud,lt_size->uK,get?_push_size->uL,size_push->vo,SameBut->VF,get?_update_other->tG,get?_update_self->Te,FlyingW->FI,IsTuple->FK,ExtBut->Rg
open Nat renaming le_refl->uA,zero_le->uY,ne_of_lt->v7,le_trans->vg,lt_irrefl->vL,ne_of_gt->U4,lt_of_le_of_lt->U6,min_eq_left->UM,le_of_lt->UW,lt_succ_self->UX,le_add_right->UY,log2_le_self->UZ,lt_of_lt_of_le->Vf,le_succ->GF,lt_or_ge->GR,lt_trans->GZ,succ_pos->Hh,succ->HU,not_lt_zero->HX,succ_le_succ->tO,le_total->Ti,zero_add->TF,add_sub_cancel_left->TM,mod_lt->Fi,le_of_eq->Fy,eq_zero_or_pos->rZ,add_zero->Rb
open Option.some renaming inj->uM,injEq->p9
open PySem.PassesOwn renaming never->uR
open PySem.Around renaming in1_units->uZ,under->TJ,under_plainId->r_
open PySem.F renaming plainAttrs_list->vb,entry_str_split->vA,slot_str_split->vG,plainAttrs_str->vH,slot_list_append->vQ,type_list_append->vR,slot_tuple_iterator_next->U2,args_str_split_2->U7,slot_enumerate_next->Ur,args_tuple_add_2->UB,entry_tuple_add->UI,plainAttrs_dict->UK
open PyProof.Rows renaming boot_isinstance->ve,boot_tuple->vw,callWith_type1->vD,slot_tuple_getitem->vJ,boot_str->Uz,envOfC->V8,AllBare->VO,IntsAre->gZ,IsTup->Gr,Call_->hX,boot_all->Hg,StrsAre->tM,tail_any->tR,Subscript_->tU,boot_int->tZ,subscriptTail->Ts,entry_tuple_getitem->rO,tupleItemsOf_->Ra,subscriptTail_builtinR->Rt,isTrue_plain->Rv,args_tuple_getitem->RM,slicePart_none->RX,iadd_int->pw,callWith_builtin1->pI
open Array renaming length_toList->vq,getElem?_toList->HR,append_assoc->T2,size_append->Tt,toList_append->FH,size_push->rD,toList->rT
open Ne renaming symm->vX
open PySem.Calls renaming callWith_builtin->U1,evalArgs_plain->U9,spliced_cons->Uh,spliced_nil->US,call_len_list->FG,Name_function_global->rS
open Sum.inr renaming inj->Ue
open PySem.SeqAt.EqAt renaming int_str->UD,str_int->UE,same->GX,str_str->tT,int_int->T1,int_none->Fc,tuple_int->Fw,none_int->FN,str_tuple->FV,int_tuple->rQ,none_str->Rm,tuple_str->Ro,str_none->Rp,of_refs->RK,none_tuple->pf,bool_str->pq,bool_none->pG,bool_int->pJ,bool_bool->pL,tuple_none->pM,int_bool->pO,none_bool->pP,str_bool->pQ
open Option renaming isSome_none->UG,some->u_,none->U_,isNone->GD,map_some->hZ,map_eq_none_iff->tE,isSome_map->TB,map->F_,getD_none->Rh
open List.cons renaming injEq->UO
open PySem.SeqAt.RcAt renaming tuples->UT,none_tuple->p7,tuple_str->pH,str_tuple->pN,str_str->pV
open Sum renaming inr->V3,inl->G7
open PySem.Value renaming ref->V7,str->Vt,none->VL,int->gT,type->gV,bool->Gm,float->Td,isStrOf->TX,bytes->rc,isInt->Rq
open PySem.Str renaming join->V9,length->VS,ofString->gY,empty->To
open ToString renaming toString->Ve
open PySem.NameKind renaming free->Vj,cell->VZ
open False renaming elim->Vk
open PySem.SeqAt renaming EqAt->Vm,in_listAt->f_,RcAt->FS,RcNeAt->rB,in_tupleAt->RU
open PySem.Builtin.Str renaming strKind->Vp,occurrences->GH
open True renaming intro->Vr
open ForIn renaming forIn->VN
open Or renaming inr->VU,inl->Hv
open Unit renaming unit->V_
open PySem.Txt renaming startswith->gQ,slice->Hq,slice_le->TU
open PySem.StrLaws renaming occBody->gX,partsFrom->GT,strSub_toList->rf,occ_eq->RY
open PySem.Builtin.SmallTypes renaming nextOf->Gf,ownedTupleIsFree->Gn,ownedTupleHandOut->GY
open ForInStep renaming yield->Gu
open PyProof.Rows.IsTup renaming new->GC
open PySem.Obj renaming mapSeq->GG,mapFields->Fk,data_mapFields->r6
open Nat.le renaming dest->GP
open PySem.Builtin.Tuple renaming tupleExact->Hk,tupleItemsOf->RF,tupleIsExact->pC
open PySem.Builtin.Slice renaming slicePlaces->Hm,sliceAdjust->T4,sliceApplied->FJ,sliceFields->R_,slicePartIndex->pT
open PySem.Shared renaming heap->HZ
open Int renaming emod_lt_of_pos->tu,toNat_natCast->tI,emod_nonneg->TK
open LawfulMonad renaming pure_bind->tF
open PySem.Builtin.List renaming listTooLong->tJ,listFitsIndex->RV
open PySem.Code renaming isFrame->tY,frames->Rx
open Classical renaming propDecidable->Tj,choose_spec->Rj,byContradiction->RT
open PySem.DictEntry renaming refKey->TN
open PySem.Heap.SameBut renaming update->TY
open PySem.Heap.DictOf renaming new->Fv
open List.Perm renaming trans->FL,refl->Rs,swap->p6
open PySem.Builtin.Dict renaming updateFrom->re,selfAndRest->pE
open PySem.Walks renaming strWide->rm,strAscii->Rc
open PySem.SeqAt.RcNeAt renaming tuples->rq,tuple_str->pc,str_str->pD,str_tuple->pS
open List.Pairwise renaming nil->Ru,map->pA
open PySem.AutoSeq1 renaming list_extend_list_list_0->p8
open List.Sublist renaming append->ph
open PySem.Heap.Ns1 renaming of_empty->pk
open PySem.MeetsSeq renaming list_pop_at->pB,list_pop_last->pK
open Int.ofNat renaming inj->pF
open PySem.Heap.IsSliceOf renaming new->pR
open PySem.Builtin.Range renaming rangeSize->pU
open PySem.Heap.IsList renaming push->pW
noncomputable abbrev oq:=List
noncomputable abbrev ot:=Option
nonrec def A4:=@if_neg
nonrec def A6:=@if_pos
nonrec def A8:=@absurd
nonrec def A9:=@congrArg
nonrec def ug:=@decide_eq_false
nonrec def uh:=@decide_eq_true
nonrec def uq:=@of_decide_eq_true
nonrec def uS:=@or_false
nonrec def vd:=@decide_eq_decide
nonrec def vi:=@decide_eq_true_eq
nonrec def UU:=@not_false_eq_true
nonrec def V0:=@not_or
namespace L2
open PySem PySem.Spec PyProof.Rows
noncomputable abbrev Key:=Sum Int Str
nonrec def oW:Key->o7->Bool
 | .inl k,v=>Rq k v
 | .inr x,v=>TX x v
nonrec def Ad4 (w:oj):Key->Int
 | .inl k=>hashInt k
 | .inr x=>hashStr w x
def Qu:∀{k:Key}{v:o7},oW k v=v_->(∃i t,k=G7 i/\v=gT i t)∨(∃x t,k=V3 x/\v=Vt x t)
 | .inl i,v,h=>by
  erw[Value.isInt_shape (k:=i) (v:=v) h,t,e];exact .inl ⟨i,t,1,e⟩
 | .inr x,v,h=>by
  erw[Value.isStrOf_shape (x:=x) (v:=v) h,t,e];exact .inr ⟨x,t,1,e⟩
def Ew (i:Int)(t:Tok):oW (.inl i) (.int i t)=true:=by simp[oW,Rq]
def Ev (x:Str)(t:Tok):oW (.inr x) (.str x t)=true:=by simp[oW,TX]
def Aa7 (a b:Int):decide ((G7 a:Key)=G7 b)=(a==b):=by
 by_cases e:a=b
 ·subst e;simp
 ·have h:¬(G7 a:Key)=G7 b:=λq=>e (Sum.inl.inj q);rw[ug h];exact(beq_eq_false_iff_ne.mpr e).symm
def Aa4 (a b:Str):decide ((V3 a:Key)=V3 b)=decide (a=b):=by
 by_cases e:a=b
 ·subst e;simp
 ·have h:¬(V3 a:Key)=V3 b:=λq=>e (Ue q);rw[ug h,ug e]
def Aa6 (a:Int)(b:Str):decide ((G7 a:Key)=V3 b)=false:=ug (λq=>nomatch q)
def Aa5 (a:Str)(b:Int):decide ((V3 a:Key)=G7 b)=false:=ug (λq=>nomatch q)
nonrec def Ql (prog:oh)(w:oj):PySem.KeyKind prog w Key where
 is:=oW
 hash:=Ad4 w
 inj:=λv a b ha hb=>by
  rcases Qu ha with⟨i,t,rfl,rfl⟩|⟨x,t,rfl,rfl⟩
  ·rcases Qu hb with⟨j,u,rfl,e⟩|⟨y,u,rfl,e⟩
   ·injection e with e1 _;rw[e1]
   ·exact nomatch e
  ·rcases Qu hb with⟨j,u,rfl,e⟩|⟨y,u,rfl,e⟩
   ·exact nomatch e
   ·injection e with e1 _;rw[e1]
 byValue:=λk v h=>by
  rcases Qu h with⟨i,t,rfl,rfl⟩|⟨x,t,rfl,rfl⟩<;>rfl
 pyHash:=λhv h=>by
  rcases Qu hv with⟨i,t,rfl,rfl⟩|⟨x,t,rfl,rfl⟩
  ·exact wpAny_pyHash_int h
  ·exact wpAny_pyHash_str h
 eqBool:=λhu hv h=>by
  rcases Qu hu with⟨i,t,rfl,rfl⟩|⟨x,t,rfl,rfl⟩
  ·rcases Qu hv with⟨j,u,rfl,rfl⟩|⟨y,u,rfl,rfl⟩
   ·rw[Aa7] at h;exact wpAny_eqBool_int h
   ·rw[Aa6] at h;exact UD i t y u _ _ _ _ h
  ·rcases Qu hv with⟨j,u,rfl,rfl⟩|⟨y,u,rfl,rfl⟩
   ·rw[Aa5] at h;exact UE x t j u _ _ _ _ h
   ·rw[Aa4] at h;exact wpAny_eqBool_str h
 «strs»:=λk x t v h=>by
  rcases Qu h with⟨i,u,rfl,e⟩|⟨y,u,rfl,e⟩
  ·exact nomatch e
  ·injection e with e1 _
   subst e1
   cases v<;>rfl
def As (prog:oh)(w:oj)(i:Int)(t:Tok):(Ql prog w).is (.inl i) (.int i t)=true:=Ew i t
def wP (prog:oh)(w:oj)(x:Str)(t:Tok):(Ql prog w).is (.inr x) (.str x t)=true:=Ev x t
inductive V where
 |non|bl (b:Bool)|int (i:Int)|str (x:Str)|byt (b:Array UInt8)|flt (b:UInt64)|ref (a:Addr)|ty (n:String)
 deriving DecidableEq
nonrec def ik:V->o7->Prop
 | .non,u=>u=VL
 | .bl b,u=>u=Gm b
 | .int i,u=>∃t,u=gT i t
 | .str x,u=>∃t,u=Vt x t
 | .byt b,u=>∃t,u=rc b t
 | .flt b,u=>∃t,u=Td b t
 | .ref a,u=>u=V7 a
 | .ty n,u=>u=gV n
noncomputable abbrev iq:oq V->oq o7->Prop:=Paired ik
variable {xs:oq V}{us:oq o7}
def iq.length (r:iq xs us):↑xs=↑us:=Paired.length r
def iq.get:∀{xs:oq V}{us:oq o7}{i:Nat}{x:V},iq xs us->xs[i]? =u_ x->∃u,us[i]? =u_ u/\ik x u
 |_,_,_,_,.nil,e=>by simp at e
 |_,_,0,_,.cons r _,e=>by simp at e;subst e;exact[0:r]
 |_,_,i+1,x,.cons _ t,e=>by
  obtain⟨u,h1,h2⟩:=iq.get (i:=i) (x:=x) t (by simpa using e)
  exact⟨u,by simpa using h1,h2⟩
def iq.set {x:V}{u:o7}(r:ik x u):∀{xs:oq V}{us:oq o7} (i:Nat),iq xs us->iq (xs.set i x) (us.set i u)
 |_,_,_,.nil=> .nil
 |_,_,0,.cons _ t=> .cons r t
 |_,_,i+1,.cons q t=> .cons q (iq.set r i t)
def iq.append:∀{xs ys:oq V}{us ws:oq o7},iq xs us->iq ys ws->iq (xs++ys) (us++ws)
 |_,_,_,_,.nil,s=>s
 |_,_,_,_,.cons r t,s=> .cons r (iq.append t s)
def iq.take:∀{xs:oq V}{us:oq o7} (n:Nat),iq xs us->iq (xs.take n) (us.take n)
 |_,_,0,_=> .nil
 |_,_,_+1,.nil=> .nil
 |_,_,n+1,.cons r t=> .cons r (iq.take n t)
def iq.drop:∀{xs:oq V}{us:oq o7} (n:Nat),iq xs us->iq (xs.drop n) (us.drop n)
 |_,_,0,r=>r
 |_,_,_+1,.nil=> .nil
 |_,_,n+1,.cons _ t=>iq.drop n t
nonrec def mZ:ot V->ot o7->Prop
 |some v,u_ u=>ik v u
 |none,U_=>True
 |_,_=>False
nonrec def KV {κ:Type}:oq (κ×V)->oq (κ×o7)->Prop:=Paired λ(p:κ×V) (q:κ×o7)=>p.1=q.1/\ik p.2 q.2
nonrec def kV:Key->V
 | .inl i=> .int i
 | .inr x=> .str x
inductive HO where
 |lst (xs:List V)
 |tup (xs:List V)
 |dK (kvs:List (Key×V))|dT (kvs:List (List Key×V))
 |set (S:Int->Bool)(n:Nat)
 |ins (C dx:Addr)(fs:List (Str×V))
 |own (x:Addr)
 |xd (fs:List (Str×V))
 |met (f x:Addr)
 |rng (lo hi:Int)
 |frz (o:Obj)(u:HO)
 |tbl (ps:Array Value)
 |ext (φ:Heap->Prop)
noncomputable abbrev Hp:=o6->ot HO
nonrec def upd (H:Hp)(a:o6)(o:HO):Hp:=λb=>if b=a then u_ o else H b
variable {H:Hp}{a:o6}{o:HO}
def qg:upd H a o a=u_ o:=by unfold upd;rw[A6 rfl]
variable {b:o6}
def qh (h:b≠a):upd H a o b=H b:=by unfold upd;rw[A4 h]
def AcH {u:HO}(h:H a=u_ o)(h':H b=u_ u)(d:o≠u):a≠b:=by
 intro e;subst e;rw[h] at h';exact d (uM h')
def qi (h:H a=u_ o)(h':H b=U_):a≠b:=by
 intro e;subst e;rw[h] at h';cases h'
section
variable (P:oh)(w:oj)
nonrec def Q6 (H:Hp)(h:og)(a:o6):HO->Prop
 | .lst xs=>↑xs<=V5/\∃(its:oq o7) (n:Nat),iq xs its/\h.get? a=u_ {cls:= .type "list",data:= .seq its.toArray n}
 | .tup xs=>↑xs<=V5/\∃its:oq o7,iq xs its/\Gr h a its.toArray
 | .dK kvs=>↑kvs<=V5/\(a==Vn)=V1/\∃vs,KV kvs vs/\h.DictOf (Ql P w) a vs
 | .dT kvs=>↑kvs<=V5/\(a==Vn)=V1/\∃xs:oq (oq Key×o6×o7),
   Paired (λ(p:oq Key×V) (q:oq Key×o6×o7)=>p.1=q.1/\H q.2.1=u_ (.tup (p.1.map kV))/\ik p.2 q.2.2) kvs xs/\
   ∃o es ep,h.get? a=u_ o/\o.ExactDict/\o.data= .dict es ep/\es.toList=xs.map (entryOfKey (Go (Ql P w)))/\(xs.map (·.1)).Nodup
 | .set S n=>h.SetOf (intKind P w) a S n
 | .ins C dx fs=>H dx=u_ (.own a)/\↑fs<=1000/\dx≠a/\h.get? a=u_ (PySem.W.instObj C dx)/\
   ∃mA,h.Ns1 dx mA/\(∀f,mZ (fs.lookup f) (mA f))/\PySem.Within mA (fs.map (·.1))
 | .own _=>∃o,h.get? a=u_ o
 | .xd fs=>∃mA,h.Ns1 a mA/\∀f,mZ (fs.lookup f) (mA f)
 | .rng lo hi=>∃t u v,h.get? a=u_ {cls:= .type "range",data:= .fields #[.int lo t,.int hi u,.int 1 v]}
 | .frz o u=>h.get? a=u_ o/\Q6 H h a u
 | .tbl ps=>h.get? a=u_ {cls:= .none,data:= .fields ps}
 | .met f x=>h.get? a=u_ (PySem.W.methodObj (.ref f) (.ref x))
 | .ext φ=>φ h/\(∃o,h.get? a=u_ o)/\∀h1 h2:og,φ h1->(∀o,h1.get? a=u_ o->h2.get? a=u_ o)->φ h2
nonrec def HOk (H:Hp)(h:og):Prop:=∀a o,H a=u_ o->Q6 P w H h a o
end
section
variable {P:oh}{w:oj}{H H':Hp}{h h':og}{a:o6}{o:HO}
def Q6.lt (x:Q6 P w H h a o):a<h.objs.size:=by
 cases o with
 |lst xs=>erw[x,_,_,_,_,e];exact uK e
 |tup xs=>erw[x,_,_,_,p];exact p.lt
 |dK kvs=>erw[x,_,_,_,_,o,_,_,e,_];exact uK e
 |dT kvs=>erw[x,_,_,_,_,o,_,_,e,_];exact uK e
 |set S n=>erw[x,o,_,_,_,e,_];exact uK e
 |ins C dx fs=>erw[x,_,_,_,e,_];exact uK e
 |own y=>erw[x,_,e];exact uK e
 |xd fs=>erw[x,_,[_,_,_,e,_],_];exact uK e
 |rng lo hi=>erw[x,_,_,_,e];exact uK e
 |frz ob u=>erw[x,e,_];exact uK e
 |tbl ps=>exact uK (show h.get? a=u_ _ from x)
 |met f y=>exact uK (show h.get? a=u_ _ from x)
 |ext φ=>erw[x,_,[_,e],_];exact uK e
def Paired.mapP {α β:Type}{F G:α->β->Prop}:∀{l₁:oq α}{l₂:oq β},Paired F l₁ l₂->(∀a b,F a b->G a b)->Paired G l₁ l₂
 |_,_,.nil,_=> .nil
 |_,_,.cons r t,f=> .cons (f _ _ r) (Paired.mapP t f)
def Q6.stay (x:Q6 P w H h a o)(k:∀b u,(b=a∨H b=u_ (.own a))->h.get? b=u_ u->h'.get? b=u_ u)
  (O:∀b,H b=u_ (.own a)->H' b=u_ (.own a)) (U:∀b xs,H b=u_ (.tup xs)->H' b=u_ (.tup xs)):Q6 P w H' h' a o:=by
 induction o with
 |lst xs=>erw[x,z,its,n,r,e];exact⟨z,its,n,r,k _ _ (.inl rfl) e⟩
 |tup xs=>erw[x,z,its,r,ob,e,c];exact⟨z,its,r,ob,k _ _ (.inl rfl) e,c⟩
 |dK kvs=>erw[x,z,y,vs,r,ob,es,ep,e,c];exact⟨z,y,vs,r,ob,es,ep,k _ _ (.inl rfl) e,c⟩
 |dT kvs=>
  erw[x,z,y,xs,r,ob,es,ep,e,c];exact⟨z,y,xs,Paired.mapP r λp q z=>[z.1:U _ _ z.2.1:z.2.2],ob,es,ep,k _ _ (.inl rfl) e,c⟩
 |set S n=>erw[x,ob,es,ep,t,e,c];exact⟨ob,es,ep,t,k _ _ (.inl rfl) e,c⟩
 |ins C dx fs=>
  erw[x,d,z,ne,e,mA,[od,es,ep,e2,c],r];exact⟨O _ d,z,ne,k _ _ (.inl rfl) e,mA,⟨od,es,ep,k _ _ (.inr d) e2,c⟩,r⟩
 |own y=>erw[x,ob,e];exact[ob:k _ _ (.inl rfl) e]
 |xd fs=>erw[x,mA,[od,es,ep,e,c],r];exact[mA:⟨od,es,ep,k _ _ (.inl rfl) e,c⟩:r]
 |rng lo hi=>erw[x,t,u,v,e];exact⟨t,u,v,k _ _ (.inl rfl) e⟩
 |frz ob u Z=>erw[x,e,q];exact[k _ _ (.inl rfl) e:Z q]
 |tbl ps=>
  have e:h.get? a=u_ {cls:= .none,data:= .fields ps}:=x;show h'.get? a=u_ {cls:= .none,data:= .fields ps};exact k a _ (.inl rfl) e
 |met f y=>
  have e:h.get? a=u_ (PySem.W.methodObj (.ref f) (.ref y)):=x;show h'.get? a=u_ (PySem.W.methodObj (.ref f) (.ref y));exact k a _ (.inl rfl) e
 |ext φ=>erw[x,p,[o,e],st];exact[st _ _ p λo q=>k _ _ (.inl rfl) q:[o:k _ _ (.inl rfl) e]:st]
def HOk.lt (x:HOk P w H h)(e:H a=u_ o):a<h.objs.size:=(x a o e).lt
def HOk.fresh (x:HOk P w H h)(e:h.objs.size<=a):H a=none:=by
 cases q:H a with
 |none=>rfl
 |some u=>exact A8 (Vf (x.lt q) e) (vL _)
def HOk.kept (x:HOk P w H h)(k:∀b u,h.get? b=u_ u->h'.get? b=u_ u):HOk P w H h':=λa o e=>
 (x a o e).stay (λb u _ q=>k b u q) (λ_ q=>q) λ_ _ q=>q
def HOk.laid (x:HOk P w H h)(k:∀b u,h.get? b=u_ u->h'.get? b=u_ u)(U:h.objs.size<=a)(new:Q6 P w (upd H a o) h' a o):HOk P w (upd H a o) h':=λb u e=>by
 have hn:=x.fresh U;by_cases O:b=a
 ·subst O;rw[qg] at e;cases e;exact new
 ·rw[qh O] at e;exact(x b u e).stay (λc v _ q=>k c v q) (λc q=>by rwa[qh (qi q hn)]) λc xs q=>by rw[qh (qi q hn)];exact q
end
nonrec def Rd (H:Hp)(a:o6)(u:HO):Prop:=H a=u_ u∨∃o,H a=u_ (.frz o u)
def Rd.of {u:HO}(h:H a=u_ u):Rd H a u:= .inl h
variable {w:oj}{h:og}
def Rd.ok {P:oh}{u:HO}(r:Rd H a u)(x:HOk P w H h):Q6 P w H h a u:=by
 rcases r with r|⟨o,r⟩
 ·exact x a u r
 ·erw[x a _ r,_,q];exact q
nonrec def Mut:ot HO->Prop
 |some (.lst _)=>True
 |some (.dK _)=>True
 |some (.dT _)=>True
 |some (.set _ _)=>True
 |some (.ins _ _ _)=>True
 |some (.ext _)=>True
 |_=>False
section
variable {P:oh}{w:oj}{H:Hp}{h h':og}{x e:o6}{o':HO}
def HOk.write (ok:HOk P w H h)(mu:Mut (H x))(he:e=x∨H e=u_ (.own x))(k:∀b u,b≠e->h.get? b=u_ u->h'.get? b=u_ u)(aa:∃u,h'.get? e=u_ u)
  (new:Q6 P w (upd H x o') h' x o'):HOk P w (upd H x o') h':=λb u q=>by
 have U:∀c y,H c=u_ (.own y)->c≠x:=λc y r z=>by subst z;rwa[r] at mu
 have Z:∀c xs,H c=u_ (.tup xs)->c≠x:=λc xs r z=>by subst z;rwa[r] at mu
 by_cases hb:b=x
 ·subst hb;rw[qg] at q;cases q;exact new
 ·rw[qh hb] at q;by_cases O:b=e
  ·have q':H b=u_ (.own x):=by
    rcases he with z|z
    ·exact A8 (O.trans z) hb
    ·rwa[O]
   rw[q] at q';cases q';erw[aa,v,hv];exact⟨v,by rwa[O]⟩
  ·refine(ok b u q).stay (λc v hc r=>k c v ?_ r) (λc r=>by rwa[qh (U c b r)]) λc xs r=>by rwa[qh (Z c xs r)]
   rcases hc with rfl|hc
   ·exact O
   ·rintro rfl;rcases he with z|z
    ·exact U c b hc z
    ·rw[hc] at z;cases z;exact hb rfl
end
structure Un (fs ex:oq o6)(H H':Hp)(h h':og):Prop where
 keep:∀b o,h.get? b=u_ o->H b=U_->b∉fs->b∉ex->h'.get? b=u_ o
 slot:∀b o,h.get? b=u_ o->H b=U_->b∈fs->b∉ex->∃sl,h'.get? b=u_ {o with slots:=sl}
 free:∀b o,h.get? b=u_ o->H b=U_->b∉ex->H' b=U_
 there:∀b o,h.get? b=u_ o->b∉ex->∃o',h'.get? b=u_ o'
 tups:∀b xs,H b=u_ (.tup xs)->H' b=u_ (.tup xs)
 frzs:∀b o u,H b=u_ (.frz o u)->H' b=u_ (.frz o u)
 tbls:∀b ps,H b=u_ (.tbl ps)->∃more,H' b=u_ (.tbl (ps++more))
section
variable {fs fs' ex ex':oq o6}{H H1 H2:Hp}{h h1 h2 h':og}{a x e:o6}{o:HO}
def Un.any (u:Un fs ex H H1 h h1){ob:Obj}(q:h.get? b=u_ ob)(n:H b=U_)(O:b∉ex):∃sl,h1.get? b=u_ {ob with slots:=sl}:=by
 by_cases U:b∈fs
 ·exact u.slot b ob q n U O
 ·exact[ob.slots:u.keep b ob q n U O]
def Un.trans (a:Un fs ex H H1 h h1)(b:Un fs ex H1 H2 h1 h2):Un fs ex H H2 h h2 where
 keep:=λc ob q n Z O=>b.keep c ob (a.keep c ob q n Z O) (a.free c ob q n O) Z O
 slot:=λc ob q n Z O=>by
  erw[a.slot c ob q n Z O,sl,U];erw[b.slot c _ U (a.free c ob q n O) Z O,aa,e2];exact[aa:e2]
 free:=λc ob q n O=>by
  erw[a.there c ob q O,o',U];exact b.free c o' U (a.free c ob q n O) O
 there:=λc ob q O=>by
  erw[a.there c ob q O,o',U];exact b.there c o' U O
 tups:=λc xs q=>b.tups c xs (a.tups c xs q)
 frzs:=λc ob xs q=>b.frzs c ob xs (a.frzs c ob xs q)
 tbls:=λc ps q=>by
  erw[a.tbls c ps q,m1,U];erw[b.tbls c _ U,m2,e2];exact⟨m1++m2,by rw[e2,T2]⟩
def Un.kept (k:∀b u,h.get? b=u_ u->h'.get? b=u_ u):Un fs ex H H h h':=
 ⟨λb ob q _ _ _=>k b ob q,λb ob q _ _ _=>[ob.slots:k b ob q],λ_ _ _ n _=>n,λb ob q _=>[ob:k b ob q],λ_ _ q=>q,λ_ _ _ q=>q,λ_ ps q=>⟨#[],by rw[q];simp⟩⟩
def Un.refl:Un fs ex H H h h:=Un.kept λ_ _ q=>q
def Un.laid (k:∀b u,h.get? b=u_ u->h'.get? b=u_ u)(O:h.objs.size<=a)(hn:H a=U_):Un fs ex H (upd H a o) h h' where
 keep:=λb u q _ _ _=>k b u q
 slot:=λb u q _ _ _=>[u.slots:k b u q]
 free:=λb u q n _=>by rwa[qh (v7 (Vf (uK q) O))]
 there:=λb u q _=>[u:k b u q]
 tups:=λb xs q=>by rwa[qh (qi q hn)]
 frzs:=λb u xs q=>by rwa[qh (qi q hn)]
 tbls:=λb ps q=>⟨#[],by rw[qh (qi q hn),q];simp⟩
def Un.write (mu:Mut (H x))(he:e=x∨H e=u_ (.own x))(k:∀b u,b≠e->h.get? b=u_ u->h'.get? b=u_ u)(U:∃u,h'.get? e=u_ u):Un fs ex H (upd H x o) h h':=by
 have Z:∀b,H b=U_->b≠x:=λb n z=>by subst z;rwa[n] at mu
 have hb:∀b,H b=U_->b≠e:=λb n z=>by
  subst z;rcases he with r|r
  ·exact Z b n r
  ·rw[n] at r;cases r
 have hm:∀b u,H b=u_ u->¬Mut (u_ u)->b≠x:=λb u q nm z=>by subst z;rw[q] at mu;exact nm mu
 refine⟨λb u q n _ _=>k b u (hb b n) q,λb u q n _ _=>[u.slots:k b u (hb b n) q],λb u q n _=>by rwa[qh (Z b n)],λb u q _=>?_,
  λb xs q=>by rwa[qh (hm b _ q λz=>z)],λb u xs q=>by rwa[qh (hm b _ q λz=>z)],λb ps q=>⟨#[],by rw[qh (hm b _ q λz=>z),q];simp⟩⟩
 by_cases O:b=e
 ·subst O;exact U
 ·exact[u:k b u O q]
end
nonrec def trk (h:og)(H:Hp):oq o6:=(Va h.objs.size).filter λa=>(H a).isSome
nonrec def Lr (h:og)(H:Hp):og:=PySem.W.hideAll h (trk h H)
def EJ (h:og)(H:Hp):(Lr h H).objs.size=h.objs.size:=PySem.W.hideAll_size _ _
def Lq {o:Obj}(e:h.get? b=u_ o)(n:H b=U_):(Lr h H).get? b=u_ o:=
 PySem.W.hideAll_get _ e λhm=>by
  have q:(H b).isSome=true:=(Af.mp hm).2;rw[n] at q;simp at q
def OL {o:Obj}(e:(Lr h H).get? b=u_ o):h.get? b=u_ o/\H b=none:=by
 have O:h.get? b=u_ o:=PySem.W.of_hideAll (trk h H) e;exists O;cases q:H b with
 |none=>rfl
 |some x=>
  have hm:b∈trk h H:=Af.mpr ⟨List.mem_range.mpr (uK O),by simp[q]⟩
  have z:(Lr h H).get? b=none:=PySem.W.hideAll_none (trk h H) hm;rw[z] at e;cases e
structure Mod (K:o0)(mg:Str->ot o7)(base:og):Prop where
 kin:K.In base
 glob:base.Ns Vo mg
 blt:∃mb,base.Ns tm mb/\∀x:Str,x≠"__name__"->mb x=Gy x
 nolimit:base.NoLimit
structure Cx where
 prog:oh
 w:oj
 K:o0
 mg:Str->ot o7
 base:og
 A:om
 N:oq Str
 s₀:o9
 H₀:Hp
 env:Env
 outer:oq Env
 stack:oq Env
 ex:oq o6
 fn:Str->Bool
 calm:Bool
 pn:oq (o6×Obj)
 xe:o7->o9->Prop
nonrec def frs (l:oq Env):oq o6:=l.filterMap (·.frame)
noncomputable abbrev Cx.fs (X:Cx):oq o6:=frs X.outer
nonrec def Vis (sc:Vl)(x:Str):Prop:=sc.names.lookup x=u_ .local∨sc.names.lookup x=u_ .cell∨sc.names.lookup x=u_ .free
nonrec def Loc (sc:Vl)(x:Str):Prop:=sc.names.lookup x=u_ .local∨sc.names.lookup x=u_ .cell
nonrec def Aee (env:Env)(h:og)(m:Str->ot o7)(x:Str)(u:o7):Prop:=
 (env.kindOf x=u_ .local/\m x=u_ u)∨((env.kindOf x=u_ .cell∨env.kindOf x=u_ .free)/\∃c,env.cells.lookup x=u_ c/\h.IsCell c (u_ u))
structure Cx.Ok (X:Cx):Prop where
 mod:Mod X.K X.mg X.base
 kind:X.env.scope.kind= .function
 glob:X.env.globals=Vo
 blt:X.env.builtins=tm
 above:X.s₀.heap.objs.size<=X.env.locals
 inj:∀x y c,X.env.cells.lookup x=u_ c->X.env.cells.lookup y=u_ c->x=y
 has:∀x,(X.env.kindOf x=u_ .cell∨X.env.kindOf x=u_ .free)->∃c,X.env.cells.lookup x=u_ c
 cab:∀x c,X.fn x=v_->X.env.cells.lookup x=u_ c->X.s₀.heap.objs.size<=c
 hd:X.calm=v_->X.A.handled=U_
 frames:X.A.frames=u_ X.stack
 stk:X.stack=X.outer∨(X.stack=X.env::X.outer/\X.env.frame=u_ X.env.locals)
 exf:∀b∈X.ex,b≠X.env.locals/\∀x c,X.env.cells.lookup x=u_ c->c≠b
 bs:∀b o,X.base.get? b=u_ o->X.s₀.heap.get? b=u_ o/\X.H₀ b=U_
 bsz:X.base.objs.size<=X.s₀.heap.objs.size
 noex:∀b o,X.base.get? b=u_ o->b∉X.ex
 exfs:∀b∈X.ex,b∉X.fs
 funs:X.s₀.heap.FunFrames X.base X.outer
 frf:∀b∈X.fs,X.H₀ b=U_
structure Inv (X:Cx)(ou:oq (o6×Obj))(σ:oq (ot V))(H:Hp)(s:o9):Prop where
 ok:X.Ok
 os:s.os=X.s₀.os
 bare:VO s.gens
 base:Un X.fs X.ex X.H₀ H X.s₀.heap s.heap
 loc:∃m,s.heap.Ns X.env.locals m/\∀(i:Nat) (x:Str) (v:V),X.N[i]? =u_ x->σ[i]? =u_ (u_ v)->Vis X.env.scope x->∃u,ik v u/\Aee X.env s.heap m x u
 cell:∀x c,X.env.cells.lookup x=u_ c->∃v,s.heap.IsCell c v
 free:H X.env.locals=U_
 freeC:∀x c,X.env.cells.lookup x=u_ c->H c=U_
 pin:∀p∈X.pn++ou,s.heap.get? p.1=u_ p.2/\H p.1=U_/\p.1≠X.env.locals/\p.1∉X.fs/\∀v,p.2.data≠ .cell v
 hok:HOk X.prog X.w H s.heap
 len:↑σ=↑X.N
 tk:0<s.toks
section
variable {X:Cx}{ou:oq (o6×Obj)}{σ:oq (ot V)}{H H':Hp}{s:o9}{h':og}
def Cx.Ok.nofr (ok:X.Ok){o:Obj}(e:X.base.get? b=u_ o):b∉X.fs:=λO=>by
 have:=(ok.funs.mem O).1;rw[e] at this;cases this
def Inv.bs (I:#[I]):∀b o,X.base.get? b=u_ o->s.heap.get? b=u_ o/\H b=none:=λb o e=>
 [I.base.keep b o (I.ok.bs b o e).1 (I.ok.bs b o e).2 (I.ok.nofr e) (I.ok.noex b o e):I.base.free b o (I.ok.bs b o e).1 (I.ok.bs b o e).2 (I.ok.noex b o e)]
def Inv.bk (I:#[I]):∀b o,X.base.get? b=u_ o->s.heap.get? b=u_ o:=λb o e=>(I.bs b o e).1
def Inv.mod (I:#[I]):Mod X.K X.mg X.base:=I.ok.mod
def Inv.kIn (I:#[I]):X.K.In s.heap:=I.ok.mod.kin.keeps I.bk
def Inv.lt (I:#[I]):X.env.locals<#[0,s]:=let⟨_,hn,_⟩:=I.loc;hn.lt
def Inv.sz (I:#[I]):X.s₀.heap.objs.size<=#[0,s]:=vg I.ok.above (UW I.lt)
def Inv.nofs (I:#[I])(h:#[0,s]<=a):a∉X.fs:=λO=>by
 erw[I.ok.funs.mem O,_,o,U,_];exact A8 (Vf (uK U) (vg I.sz h)) (vL _)
def Inv.cne (I:#[I]):∀x c,X.env.cells.lookup x=u_ c->c≠X.env.locals:=λx c e z=>by
 erw[I.cell x c e,v,o,Z,hd];erw[I.loc,m,[o',es,ep,O,U,_],_];rw[z,O] at Z;cases Z;rw[U] at hd;cases hd
def Inv.funs (I:#[I]):s.heap.FunFrames X.base X.outer:=by
 have all:∀(l:oq Env),(∀b∈frs l,b∈X.fs)->X.s₀.heap.FunFrames X.base l->s.heap.FunFrames X.base l:=by
  intro l
  induction l with
  |nil=>intro _ _;trivial
  |cons env r ih=>
   intro hs hl;erw[hl,hk,[L,o,O,hn,ho,hd],hr];have U:L∈X.fs:=hs L (by unfold frs;rw[UA,O];exact ui)
   obtain⟨sl,e⟩:=I.base.slot L o ho (I.ok.frf L U) U λz=>I.ok.exfs L z U;exact⟨hk,⟨L,_,O,hn,e,hd⟩,ih (λb Z=>hs b (by unfold frs;rw[UA,O];exact uj _ Z)) hr⟩
 exact all X.outer (λ_ Z=>Z) I.ok.funs
def Inv.stack (I:#[I]):s.heap.FunFrames X.base X.stack:=by
 rcases I.ok.stk with e|⟨e,O⟩
 ·rw[e];exact I.funs
 ·rw[e];erw[I.loc,m,hn,_];refine .cons (by rw[I.ok.kind];decide) O hn ?_ I.funs
  exact Heap.get?_none_of_le (vg I.ok.bsz I.ok.above)
def Inv.stkSub (I:#[I]):∀b∈frs X.stack,b∈X.env.locals::X.fs:=λb O=>by
 rcases I.ok.stk with e|⟨e,U⟩
 ·rw[e] at O;exact uj _ O
 ·rw[e] at O;unfold frs at O;rwa[UA,U] at O
def Inv.stkFree (I:#[I]):∀b∈frs X.stack,H b=none:=λb O=>by
 rcases Aa.mp (I.stkSub b O) with e|O
 ·rw[e];exact I.free
 ·erw[I.ok.funs.mem O,_,o,U,_];exact I.base.free b o U (I.ok.frf b O) λz=>I.ok.exfs b z O
def Inv.step {g':Array tX}{t':Nat}{d':Drawn}{ch:oq o6}(I:#[I])
  (U:∀b∈ch,(b∈X.ex∨X.s₀.heap.objs.size<=b)/\b≠X.env.locals/\(∀x c,X.env.cells.lookup x=u_ c->c≠b)/\∀p∈X.pn++ou,p.1≠b)
  (keep:∀b o,b≠X.env.locals->b∉X.fs->b∉ch->s.heap.get? b=u_ o->H b=U_->h'.get? b=u_ o)
  (slot:∀b o,b≠X.env.locals->b∈X.fs->b∉ch->s.heap.get? b=u_ o->H b=U_->∃sl,h'.get? b=u_ {o with slots:=sl}) (free:∀b o,b∉ch->s.heap.get? b=u_ o->H b=U_->H' b=U_)
  (there:∀b o,b∉ch->s.heap.get? b=u_ o->∃o',h'.get? b=u_ o')
  (tups:∀b xs,H b=u_ (.tup xs)->H' b=u_ (.tup xs)) (frzs:∀b o u,H b=u_ (.frz o u)->H' b=u_ (.frz o u)) (tbls:∀b ps,H b=u_ (.tbl ps)->∃more,H' b=u_ (.tbl (ps++more)))
  (ns:∀m,s.heap.Ns X.env.locals m->h'.Ns X.env.locals m) (hok:HOk X.prog X.w H' h') (hg:VO g') (ht:0<t':=by ac_rfl):
  Inv X ou σ H' {s with heap:=h',gens:=g',drawn:=d',toks:=t'}:=by
 have ad:∀b o,X.s₀.heap.get? b=u_ o->b≠X.env.locals:=λb o e=>v7 (Vf (uK e) I.ok.above);have ac:∀b o,X.s₀.heap.get? b=u_ o->b∉X.ex->b∉ch:=λb o e O hb=>by
  rcases(U b hb).1 with z|z
  ·exact O z
  ·exact A8 (Vf (uK e) z) (vL _)
 have Z:∀x c,X.env.cells.lookup x=u_ c->∀v,s.heap.IsCell c v->h'.IsCell c v:=λx c e v ⟨o,ho,hd⟩=>by
  have aa:c∉ch:=λz=>(U c z).2.2.1 x c e rfl;by_cases hc:c∈X.fs
  ·erw[slot c o (I.cne x c e) hc aa ho (I.freeC x c e),sl,q];exact[_:q:hd]
  ·exact[o:keep c o (I.cne x c e) hc aa ho (I.freeC x c e):hd]
 exists I.ok,I.os,hg,⟨λb o e n hb O=>?_,λb o e n hb O=>?_,λb o e n O=>?_,λb o e O=>?_,λb xs e=>tups b xs (I.base.tups b xs e),λb o xs e=>frzs b o xs (I.base.frzs b o xs e),λb ps e=>?_⟩,?_,λx c e=>?_,?_,λx c e=>?_,λp hp=>?_,hok,I.len,ht
 ·exact keep b o (ad b o e) hb (ac b o e O) (I.base.keep b o e n hb O) (I.base.free b o e n O)
 ·erw[I.base.slot b o e n hb O,sl,e1];erw[slot b _ (ad b o e) hb (ac b o e O) e1 (I.base.free b o e n O),ae,e2];exact[ae:e2]
 ·erw[I.base.there b o e O,o',e1];exact free b o' (ac b o e O) e1 (I.base.free b o e n O)
 ·erw[I.base.there b o e O,o',e1];exact there b o' (ac b o e O) e1
 ·erw[I.base.tbls b ps e,m1,e1];erw[tbls b _ e1,m2,e2];exact⟨m1++m2,by rw[e2,T2]⟩
 ·erw[I.loc,m,hn,hl];exists m,ns m hn,λi x v e1 e2 e3=>?_;erw[hl i x v e1 e2 e3,u,r,l];exists u,r;rcases l with l|⟨k,c,e,z⟩
  ·exact .inl l
  ·exact .inr ⟨k,c,e,Z x c e _ z⟩
 ·erw[I.cell x c e,v,z];exact[v:Z x c e v z]
 ·erw[I.loc,m,[o,_,_,ho,_],_];exact free _ o (λz=>(U _ z).2.1 rfl) ho I.free
 ·erw[I.cell x c e,v,o,ho,hd];exact free c o (λz=>(U c z).2.2.1 x c e rfl) ho (I.freeC x c e)
 ·erw[I.pin p hp,e,n,ne,nf,d];have aa:p.1∉ch:=λz=>(U p.1 z).2.2.2 p hp rfl;exact⟨keep p.1 p.2 ne nf aa e n,free p.1 p.2 aa e n,ne,nf,d⟩
variable {t':Nat}
def Inv.un (I:#[I])(u:Un X.fs [] H H' s.heap h')(hok:HOk X.prog X.w H' h')(ht:0<t':=by ac_rfl):Inv X ou σ H' {s with heap:=h',toks:=t'}:=by
 erw[id I.loc,m,[o,es,ep,ho,r],_];obtain⟨sl,hL⟩:=u.any ho I.free (by simp)
 exact I.step (g':=s.gens) (d':=s.drawn) (ch:= []) (λ_ z=>nomatch z) (λb o _ U _ e n=>u.keep b o e n U (by simp)) (λb o _ U _ e n=>u.slot b o e n U (by simp)) (λb o _ e n=>u.free b o e n (by simp)) (λb o _ e=>u.there b o e (by simp)) u.tups u.frzs u.tbls (λm' hm=>by
  erw[hm,o',Z,aa,O,r'];rw[ho] at O;cases O;exact⟨_,Z,aa,hL,r'⟩) hok I.bare
def Inv.call {g':Array tX}{t':Nat}{d':Drawn}{ch:oq o6}(I:#[I])(u:Un (frs X.stack) ch H H' s.heap h')(hok:HOk X.prog X.w H' h')(hg:VO g')
  (U:∀b∈ch,(b∈X.ex∨X.s₀.heap.objs.size<=b)/\b≠X.env.locals/\(∀x c,X.env.cells.lookup x=u_ c->c≠b)/\∀p∈X.pn++ou,p.1≠b) (ht:0<t':=by ac_rfl):
  Inv X ou σ H' {s with heap:=h',gens:=g',drawn:=d',toks:=t'}:=by
 erw[id I.loc,m,[o,es,ep,ho,r],_];obtain⟨sl,hL⟩:=u.any ho I.free λz=>(U _ z).2.1 rfl;exact I.step (ch:=ch) U (λb o hL hb O e n=>u.keep b o e n (λz=>(Aa.mp (I.stkSub b z)).elim hL hb) O) (λb o _ _ O e n=>u.any e n O) (λb o O e n=>u.free b o e n O) (λb o O e=>u.there b o e O) u.tups u.frzs u.tbls (λm' hm=>by
  erw[hm,o',aa,ac,Z,r'];rw[ho] at Z;cases Z;exact⟨_,aa,ac,hL,r'⟩) hok hg
def Inv.turned {t':Nat}{it:o6}(I:#[I])(k:∀b o,b≠it->s.heap.get? b=u_ o->h'.get? b=u_ o)(hn:H it=U_)(Z:it≠X.env.locals)
  (h1:it∈X.ex∨X.s₀.heap.objs.size<=it) (h2:∀x c,X.env.cells.lookup x=u_ c->c≠it) (h3:∀p∈X.pn++ou,p.1≠it) (ht:0<t':=by ac_rfl):Inv X ou σ H {s with heap:=h',toks:=t'}:=by
 have U:∀b u,H b=u_ u->b≠it:=λb u e z=>by rw[z,hn] at e;cases e
 refine I.step (g':=s.gens) (d':=s.drawn) (ch:= [it]) (λb hb=>?_) (λb o _ _ O e _=>k b o (λz=>O (by simp[z])) e) (λb o _ _ O e _=>⟨o.slots,k b o (λz=>O (by simp[z])) e⟩) (λ_ _ _ _ n=>n)
  (λb o O e=>⟨o,k b o (λz=>O (by simp[z])) e⟩) (λ_ _ e=>e) (λ_ _ _ e=>e) (λb ps e=>⟨#[],by rw[e];simp⟩) (λm hm=>?_) (λb u e=>?_) I.bare
 ·have e:b=it:=by simpa using hb
  subst e;exact⟨h1,Z,h2,h3⟩
 ·erw[hm,o,es,ep,ho,r];exact⟨o,es,ep,k _ o (vX Z) ho,r⟩
 ·refine(I.hok b u e).stay (λc v O q=>k c v ?_ q) (λ_ q=>q) λ_ _ q=>q;rcases O with z|z
  ·rw[z];exact U b u e
  ·exact U c _ z
def Inv.tok (I:#[I])(t:Nat)(O:0<t:=by ac_rfl):Inv X ou σ H {s with toks:=t}:=I.un (h':=s.heap) (t':=t) Un.refl I.hok
def Inv.kept (I:#[I])(k:∀b u,s.heap.get? b=u_ u->h'.get? b=u_ u)(O:0<t':=by ac_rfl):Inv X ou σ H {s with heap:=h',toks:=t'}:=I.un (Un.kept k) (I.hok.kept k)
def Inv.laid (I:#[I])(k:∀b u,s.heap.get? b=u_ u->h'.get? b=u_ u)(O:#[0,s]<=a)(new:Q6 X.prog X.w (upd H a o) h' a o)(U:0<t':=by ac_rfl):
  Inv X ou σ (upd H a o) {s with heap:=h',toks:=t'}:=I.un (Un.laid k O (I.hok.fresh O)) (I.hok.laid k O new)
def Inv.write {x e:o6}{o:HO}{t':Nat}(I:#[I])(mu:Mut (H x))(U:e=x∨H e=u_ (.own x))(k:∀b u,b≠e->s.heap.get? b=u_ u->h'.get? b=u_ u)(O:∃u,h'.get? e=u_ u)
  (new:Q6 X.prog X.w (upd H x o) h' x o) (Z:0<t':=by ac_rfl):Inv X ou σ (upd H x o) {s with heap:=h',toks:=t'}:=I.un (Un.write mu U k O) (I.hok.write mu U k O new)
def Inv.pins_of {O:oq (o6×Obj)}(I:#[I])(h:∀p∈O,s.heap.get? p.1=u_ p.2/\H p.1=U_/\p.1≠X.env.locals/\p.1∉X.fs/\∀v,p.2.data≠ .cell v):Inv X O σ H s:=
 ⟨I.ok,I.os,I.bare,I.base,I.loc,I.cell,I.free,I.freeC,λp U=>(Ac.mp U).elim (λz=>I.pin p (vh _ z)) (h p),I.hok,I.len,I.tk⟩
variable {i j:Nat}
def Bw {N:oq Str}(O:N.Nodup){x:Str}(a:N[i]? =u_ x)(b:N[j]? =u_ x):i=j:=by
 erw[Ag.mp a,h1,U];erw[Ag.mp b,h2,e2];exact(List.getElem_inj O).mp (U.trans e2.symm)
def nI {M:Gi}{A:om}{E:o7->o9->Prop}{i:Nat}{x:Str}{v:V}{u:o7}{Q:Unit->o9->Prop}(I:#[I])(hN:X.N.Nodup)(hi:X.N[i]? =u_ x)(hx:Loc X.env.scope x)(r:ik v u)
  (h:∀s',Inv X ou (σ.set i (u_ v)) H s'->(∃a,VF a s.heap s'.heap/\(a=X.env.locals∨X.env.cells.lookup x=u_ a))->Q V_ s') (hf:X.fn x=v_∨X.env.scope.names.lookup x=u_ .local:=by first|exact .inl rfl|exact .inr rfl|assumption):V2 M A (hV X.env x u) Q E s:=by
 erw[id I.loc,m,hn,hl];have ad:(X.env.scope.kind== .class||(X.env.scope.kind== .module&&X.env.locals !=X.env.globals))=false:=by rw[I.ok.kind];rfl
 have ae:i<↑σ:=by rw[I.len];exact(Ag.mp hi).1
 have cne:=I.cne;have U:∀{a:o6}{h':og},(∃o,s.heap.get? a=u_ o/\H a=U_)->VF a s.heap h'->HOk X.prog X.w H h':=λ{a h'} ha O b ob e=>by
  erw[ha,_,_,aa];refine(I.hok b ob e).stay (λc w' hc q=>(O.2 c ?_).trans q) (λ_ q=>q) λ_ _ q=>q;rintro rfl;rcases hc with rfl|hc
  ·rw[aa] at e;cases e
  ·rw[aa] at hc;cases hc
 rcases hx with hk|hk
 ·refine FD hk hn (λh' al O=>?_) ad;erw[id hn,oL,_,_,am,_];refine h _ ⟨I.ok,I.os,I.bare,⟨λb o e n hb hx=>?_,λb o e n hb hx=>?_,I.base.free,λb o e hx=>?_,I.base.tups,I.base.frzs,I.base.tbls⟩,[_:al:λj y v' Z e2 e3=>?_],λy c e=>?_,I.free,I.freeC,λp hp=>?_,U [oL:am:I.free] O,by simpa using I.len,by first|exact I.tk|exact Hh _⟩ [_:O:.inl rfl]
  ·exact(O.2 b (v7 (Vf (uK e) I.ok.above))).trans (I.base.keep b o e n hb hx)
  ·erw[I.base.slot b o e n hb hx,sl,Z];exact[sl:(O.2 b (v7 (Vf (uK e) I.ok.above))).trans Z]
  ·erw[I.base.there b o e hx,o',Z];exact[o':(O.2 b (v7 (Vf (uK e) I.ok.above))).trans Z]
  ·by_cases hj:j=i
   ·subst hj;rw[hi] at Z;cases Z;rw[Rf ae] at e2;cases e2;exact⟨u,r,.inl ⟨hk,by simp⟩⟩
   ·rw[Fe (vX hj)] at e2;erw[hl j y v' Z e2 e3,u',r',q];exists u',r';rcases q with⟨k,e⟩|⟨k,c,e,z⟩
    ·refine .inl [k:?_];have:y≠x:=λe=>hj (Bw hN Z (e▸hi));simp[this,e]
    ·exact .inr ⟨k,c,e,z.sameBut O (cne y c e)⟩
  ·erw[I.cell y c e,w',z];exact[w':z.sameBut O (cne y c e)]
  ·erw[I.pin p hp,e,n,ne,nf,d];exact⟨(O.2 p.1 ne).trans e,n,ne,nf,d⟩
 ·have ac:X.fn x=true:=by
   rcases hf with z|z
   ·exact z
   ·rw[z] at hk;cases hk
  erw[I.ok.has x (.inl hk),c,hc];erw[I.cell x c hc,w',z];refine wpAny_storeName_cell I.ok.kind hk hc z (λh' af O=>?_);erw[id z,oc,ag,ah];refine h {s with heap:=h'} ⟨I.ok,I.os,I.bare,⟨λb o e n hb hx=>?_,λb o e n hb hx=>?_,I.base.free,λb o e hx=>?_,I.base.tups,I.base.frzs,I.base.tbls⟩,[m:hn.sameBut O (vX (cne x c hc)):λj y v' Z e2 e3=>?_],λy c' e=>?_,I.free,I.freeC,λp hp=>?_,U [oc:ag:I.freeC x c hc] O,by simpa using I.len,by first|exact I.tk|exact Hh _⟩ [c:O:.inr hc]
  ·exact(O.2 b (v7 (Vf (uK e) (I.ok.cab x c ac hc)))).trans (I.base.keep b o e n hb hx)
  ·erw[I.base.slot b o e n hb hx,sl,Z];exact[sl:(O.2 b (v7 (Vf (uK e) (I.ok.cab x c ac hc)))).trans Z]
  ·erw[I.base.there b o e hx,o',Z];exact[o':(O.2 b (v7 (Vf (uK e) (I.ok.cab x c ac hc)))).trans Z]
  ·by_cases hj:j=i
   ·subst hj;rw[hi] at Z;cases Z;rw[Rf ae] at e2;cases e2;exact[u:r:.inr ⟨.inl hk,c,hc,af⟩]
   ·rw[Fe (vX hj)] at e2;erw[hl j y v' Z e2 e3,u',r',q];exists u',r';rcases q with q|⟨k,c',e,z'⟩
    ·exact .inl q
    ·refine .inr ⟨k,c',e,z'.sameBut O ?_⟩;rintro rfl;exact hj (Bw hN Z (I.ok.inj _ _ _ e hc▸hi))
  ·by_cases ak:c'=c
   ·subst ak;exact[_:af]
   ·erw[I.cell y c' e,w2,z2];exact[w2:z2.sameBut O ak]
  ·erw[I.pin p hp,e,n,ne,nf,d];exists (O.2 p.1 ?_).trans e,n,ne,nf,d;intro q;rw[q,ag] at e;have q':oc=p.2:=uM e;exact d w' (by rwa[<-q'])
def Kf {M:Gi}{A:om}{E:o7->o9->Prop}{i:Nat}{x:Str}{v:V}{u:o7}{Q:Unit->o9->Prop}(I:#[I])(O:X.N.Nodup)(hi:X.N[i]? =u_ x)(U:Loc X.env.scope x)(r:ik v u)
  (h:∀s',Inv X ou (σ.set i (u_ v)) H s'->Q V_ s') (Z:X.fn x=v_∨X.env.scope.names.lookup x=u_ .local:=by first|exact .inl rfl|exact .inr rfl|assumption):V2 M A (hV X.env x u) Q E s:=
 nI I O hi U r (λs' I' _=>h s' I') Z
def Inv.call' {s':o9}{ch:oq o6}(I:#[I])(U:s'.os=s.os)(u:Un (frs X.stack) ch H H' s.heap s'.heap)(hok:HOk X.prog X.w H' s'.heap)(Z:VO s'.gens)
  (O:∀b∈ch,(b∈X.ex∨X.s₀.heap.objs.size<=b)/\b≠X.env.locals/\(∀x c,X.env.cells.lookup x=u_ c->c≠b)/\∀p∈X.pn++ou,p.1≠b) (ht:0<s'.toks:=by ac_rfl):Inv X ou σ H' s':=by
 erw[s',h',g',d',t',o'];have e:o'=s.os:=U;subst e;exact I.call (g':=g') (t':=t') (d':=d') u hok Z O
end
noncomputable abbrev XK:=o7->ot o6->Hp->Prop
noncomputable abbrev St:=oq (ot V)
noncomputable abbrev VK:=V->Hp->Prop
noncomputable abbrev TE:=St->Hp->VK->Prop
noncomputable abbrev TT:=St->Hp->(Bool->Hp->Prop)->Prop
noncomputable abbrev TA:=St->Hp->(oq V->Hp->Prop)->Prop
structure mL where
 nx:St->Hp->Prop
 rt:VK
 bk:St->Hp->Prop:=λ_ _=>False
 ct:St->Hp->Prop:=λ_ _=>False
noncomputable abbrev TS:=mL->St->Hp->Prop
nonrec def EP (X:Cx)(ou:oq (o6×Obj))(σ:St)(Q:VK)(u:o7)(s':o9):Prop:=∃v H',Inv X ou σ H' s'/\ik v u/\Q v H'
nonrec def TP (X:Cx)(ou:oq (o6×Obj))(σ:St)(Q:Bool->Hp->Prop)(b:Bool)(s':o9):Prop:=∃H',Inv X ou σ H' s'/\Q b H'
nonrec def AP (X:Cx)(ou:oq (o6×Obj))(σ:St)(Q:oq V->Hp->Prop)(us:oq o7)(s':o9):Prop:=∃vs H',Inv X ou σ H' s'/\iq vs us/\Q vs H'
nonrec def SP (X:Cx)(ou:oq (o6×Obj))(D:mL)(f:Flow)(s':o9):Prop:=
 match f with
 | .next=>∃σ' H',Inv X ou σ' H' s'/\D.nx σ' H'
 | .brk=>∃σ' H',Inv X ou σ' H' s'/\D.bk σ' H'
 | .cont=>∃σ' H',Inv X ou σ' H' s'/\D.ct σ' H'
 | .ret u=>∃v σ' H',Inv X ou σ' H' s'/\ik v u/\D.rt v H'
nonrec def PE (X:Cx)(e:Expr)(t:TE):Prop:=
 ∀(ou:oq (o6×Obj)) (s:o9) (σ:St) (H:Hp) (Q:VK),#[I]->t σ H Q->V2 #[X,X] X.A (eval e X.env) (EP X ou σ Q) X.xe s
nonrec def PT (X:Cx)(e:Expr)(t:TT):Prop:=
 ∀(ou:oq (o6×Obj)) (s:o9) (σ:St) (H:Hp) (Q:Bool->Hp->Prop),#[I]->t σ H Q->V2 #[X,X] X.A (isTrue e X.env (eval e X.env)) (TP X ou σ Q) X.xe s
nonrec def PW (X:Cx)(e:Expr)(t:TT):Prop:=
 ∀(whole:Sem o7) (ou:oq (o6×Obj)) (s:o9) (σ:St) (H:Hp) (Q:Bool->Hp->Prop),#[I]->t σ H Q->V2 #[X,X] X.A (isTrue e X.env whole) (TP X ou σ Q) X.xe s
variable {X:Cx}
def PW.pt {e:Expr}{t:TT}(h:PW X e t):PT X e t:=h _
nonrec def PA (X:Cx)(es:oq Expr)(t:TA):Prop:=
 ∀(pos:Pos) (ou:oq (o6×Obj)) (s:o9) (σ:St) (H:Hp) (Q:oq V->Hp->Prop),#[I]->t σ H Q->V2 #[X,X] X.A (spliced (Vd pos (V6 es X.env))) (AP X ou σ Q) X.xe s
nonrec def PS (X:Cx)(st:Stmt)(t:TS):Prop:=
 ∀(ou:oq (o6×Obj)) (s:o9) (σ:St) (H:Hp) (D:mL),#[I]->t D σ H->V2 #[X,X] X.A (exec st X.env) (SP X ou D) X.xe s
nonrec def PSs (X:Cx)(st:oq Stmt)(t:TS):Prop:=
 ∀(ou:oq (o6×Obj)) (s:o9) (σ:St) (H:Hp) (D:mL),#[I]->t D σ H->V2 #[X,X] X.A (execs st X.env) (SP X ou D) X.xe s
variable {A:om}{s:o9}
def thn {α:Type}{t:Sem α}{Q O:α->o9->Prop}{M:Gi}{E:o7->o9->Prop}(h:V2 M A t Q E s)(U:∀a s,Q a s->O a s):V2 M A t O E s:=vt h U λ_ _ x=>x
section
variable {X:Cx}
inductive Sm (i:Nat)(σ:St)(H:Hp)(Q:VK):Prop
 |mk (v:_)(_:σ[i]? =u_ (u_ v))(_:Q v H)
nonrec def tC (v:V):TE:=λ_ H Q=>Q v H
variable {i:Nat}{pos:Pos}
def Aax {x:Str}(hN:X.N[i]? =u_ x)(hv:Vis X.env.scope x)(hd:(x==("__debug__":Str))=false:=by decide)(Z:(x==("__classdict__":Str))=false:=by decide):PE X (.Name x pos) (Sm i):=by
 exists 2,Q,I,h;erw[h,v,e,h];erw[I.loc,m,hn,hl];erw[hl i x v hN e hv,u,r,l];have fin:EP X ou σ Q u s:=⟨v,H,I,r,h⟩;rcases l with⟨U,hm⟩|⟨U,c,hc,O⟩
 ·exact Tz (RQ I.ok.kind U hn hm fin) hd
 ·rcases U with U|U
  ·exact Tz (FW I.ok.kind U hc O fin) hd
  ·exact Tz (wpAny_loadName_free I.ok.kind U hc O fin Z) hd
def qk {i j pos}:PE X (.Constant (.int i) j pos) (tC (.int i)):=λ_ _ _ H _ I h=>wpAny_Constant_int ⟨.int i,H,I.tok _,⟨0⟩,h⟩
def YM {b j pos}:PE X (.Constant (.bool b) j pos) (tC (.bl b)):=λ_ _ _ H _ I h=>Constant_bool ⟨.bl b,H,I,1,h⟩
def qQ {j pos}:PE X (.Constant .none j pos) (tC .non):=λ_ _ _ H _ I h=>Constant_none ⟨.non,H,I,1,h⟩
def qm {x j pos}:PE X (.Constant (.str x) j pos) (tC (.str x)):=λ_ _ _ H _ I h=>Calls.Constant_str ⟨.str x,H,I.tok _,⟨0⟩,h⟩
nonrec def Gl (X:Cx)(x:Str):Prop:=X.env.kindOf x=u_ .globalImplicit
def wy {E:o7->o9->Prop}{ou:oq (o6×Obj)}{s:o9}{σ:St}{H:Hp}{x:Str}{u:o7}{pos:Pos}{Q:o7->o9->Prop}(I:#[I])(O:Gl X x)(hm:X.mg x=u_ u)(h:Q u s)
  (hd:(x==("__debug__":Str))=false:=by decide):V2 #[X,X] X.A (eval (.Name x pos) X.env) Q E s:=
 rS I.ok.kind O (Calls.loadGlobal_global (by rw[I.ok.glob];exact I.mod.glob.keeps I.bk) hm h) hd
def wJ {E:o7->o9->Prop}{ou:oq (o6×Obj)}{s:o9}{σ:St}{H:Hp}{x:Str}{u:o7}{pos:Pos}{Q:o7->o9->Prop}(I:#[I])(O:Gl X x)(hm:X.mg x=U_)(U:Gy x=u_ u)(h:Q u s)
  (hn:x≠"__name__":=by decide) (hd:(x==("__debug__":Str))=false:=by decide):V2 #[X,X] X.A (eval (.Name x pos) X.env) Q E s:=by
 erw[I.mod.blt,mb,h1,h2];exact rS I.ok.kind O (Calls.loadGlobal_builtin (by rw[I.ok.glob];exact I.mod.glob.keeps I.bk) hm (by rw[I.ok.blt];exact h1.keeps I.bk) ((h2 x hn).trans U) h) hd
variable {v:V}{u:o7}
def Al {x:Str}(O:Gl X x)(hm:X.mg x=u_ u)(r:ik v u)(hd:(x==("__debug__":Str))=false:=by decide):PE X (.Name x pos) (tC v):=
 λ_ _ _ H _ I h=>wy I O hm ⟨v,H,I,r,h⟩ hd
def Q4 {x:Str}{v:V}{u:o7}{pos:Pos}(O:Gl X x)(hm:X.mg x=U_)(U:Gy x=u_ u)(r:ik v u)(hn:x≠"__name__")(hd:(x==("__debug__":Str))=V1):PE X (.Name x pos) (tC v):=
 λ_ _ _ H _ I h=>wJ I O hm U ⟨v,H,I,r,h⟩ hn hd
variable {a b:Expr}{ta tb:TE}{pos:Pos}
nonrec def PC (X:Cx)(op:Gk)(a b:Expr)(t:TE):Prop:=
 ∀(ou:oq (o6×Obj)) (s:o9) (σ:St) (H:Hp) (Q:VK),#[I]->t σ H Q->
  V2 #[X,X] X.A (eval a X.env) (λv s₁=>V2 #[X,X] X.A (eval b X.env) (λu s₂=>V2 #[X,X] X.A (Vc op v u) (EP X ou σ Q) X.xe s₂) X.xe s₁) X.xe s
inductive ItB (Q:(Bool->Hp->Prop))(x:V)(H1:Hp):Prop
 |mk (c:_)(_:x= .bl c)(_:Q c H1)
nonrec def tB (t:TE):TT:=λσ H Q=>t σ H λx H1=>ItB Q x H1
def wI {O:Gk}{t:TE}(h:PC X O a b t)(h1:GL O b=V1):PT X (.Compare a [O] [b] pos) (tB t):=by
 exists 2,Q,I,U;refine rh (thn (h ou s σ H _ I U) λv s1 h1=>thn h1 λu s2 h2=>thn h2 λc s3 zq=>?_) h1;erw[zq,x,H1,Z,r1,q1];erw[q1,d,rfl,q];cases r1;exact vv [H1:Z:q]
def qZ {e:Expr}{t:TE}(h:PE X e t)(U:∀O,isTrue e X.env O=(do let v<-O;G6 e.pos;VR [v] (truthy v))):PT X e (tB t):=by
 exists 2,Q,I,Z;refine Rv (thn (h ou s σ H _ I Z) λv s1 zq=>?_) (U _);erw[zq,x,H1,I1,r1,q1];erw[q1,d,rfl,q];cases r1;exact vv [H1:I1:q]
variable {tA tB':TT}{rest:oq Expr}
nonrec def AdS (t u:TT):TT:=λσ H Q=>t σ H λc H1=>if c=v_ then u σ H1 Q else Q V1 H1
nonrec def tOr (t u:TT):TT:=λσ H Q=>t σ H λc H1=>if c=v_ then Q v_ H1 else u σ H1 Q
nonrec def AdM (t:TT):TT:=λσ H Q=>t σ H λc H1=>Q (!c) H1
def ku (ha:PT X a tA):PW X (.BoolOp .And [a] pos) tA:=by
 intro O ou s σ H Q I h;refine isTrue_and (thn (ha ou s σ H Q I h) λc s1 e=>?_);cases c with
 |true=>exact isTrue_and_nil e
 |false=>exact e
def Y3 (ha:PT X a tA):PW X (.BoolOp .Or [a] pos) tA:=by
 intro O ou s σ H Q I h;refine isTrue_or (thn (ha ou s σ H Q I h) λc s1 e=>?_);cases c with
 |false=>exact isTrue_or_nil e
 |true=>exact e
def Bh (ha:PT X a tA)(U:PW X (.BoolOp .And (b::rest) pos) tB'):PW X (.BoolOp .And (a::b::rest) pos) (AdS tA tB'):=by
 intro Z ou s σ H Q I h;refine isTrue_and (thn (ha ou s σ H _ I h) λc s1 zq=>?_);erw[zq,H1,O,q1];cases c with
 |true=>exact U Z ou s1 σ H1 Q O q1
 |false=>exact[H1:O:q1]
def JU (ha:PT X a tA)(U:PW X (.BoolOp .Or (b::rest) pos) tB'):PW X (.BoolOp .Or (a::b::rest) pos) (tOr tA tB'):=by
 intro Z ou s σ H Q I h;refine isTrue_or (thn (ha ou s σ H _ I h) λc s1 zq=>?_);erw[zq,H1,O,q1];cases c with
 |true=>exact[H1:O:q1]
 |false=>exact U Z ou s1 σ H1 Q O q1
def Qm (ha:PT X a tA):PT X (.UnaryOp .Not a pos) (AdM tA):=by
 exists 2,Q,I,h;exact isTrue_not (ha ou s σ H (λc H1=>Q (!c) H1) I h)
inductive AbQ (tb:TE)(σ:St)(Q:VK)(x:V)(H1:Hp):Prop
 |mk (c:_)(_:x= .bl c)(_:if c=v_ then tb σ H1 Q else Q (.bl V1) H1)
nonrec def Aco (ta tb:TE):TE:=λσ H Q=>ta σ H λx H1=>AbQ tb σ Q x H1
inductive Ada (tb:TE)(σ:St)(Q:VK)(x:V)(H1:Hp):Prop
 |mk (c:_)(_:x= .bl c)(_:if c=v_ then Q (.bl v_) H1 else tb σ H1 Q)
nonrec def AdL (ta tb:TE):TE:=λσ H Q=>ta σ H λx H1=>Ada tb σ Q x H1
inductive AbO (Q:VK)(x:V)(H1:Hp):Prop
 |mk (c:_)(_:x= .bl c)(_:Q (.bl (!c)) H1)
nonrec def Acf (ta:TE):TE:=λσ H Q=>ta σ H λx H1=>AbO Q x H1
def XE {op}{t:TE}(h:PE X a t):PE X (.BoolOp op [a] pos) t:=λou s σ H Q I O=>BoolOp_one (h ou s σ H Q I O)
def Za (ha:PE X a ta)(U:PE X (.BoolOp .And (b::rest) pos) tb):PE X (.BoolOp .And (a::b::rest) pos) (Aco ta tb):=by
 exists 2,Q,I,h;refine BoolOp_and (thn (ha ou s σ H _ I h) λv s1 zq=>?_);erw[zq,x,H1,O,Z,q1];erw[q1,c,rfl,q1];cases Z;refine vv ?_;cases c with
 |true=>exact U ou s1 σ H1 Q O q1
 |false=>exact⟨.bl V1,H1,O,1,q1⟩
def AcC (ha:PE X a ta)(U:PE X (.BoolOp .Or (b::rest) pos) tb):PE X (.BoolOp .Or (a::b::rest) pos) (AdL ta tb):=by
 exists 2,Q,I,h;refine BoolOp_or (thn (ha ou s σ H _ I h) λv s1 zq=>?_);erw[zq,x,H1,O,Z,q1];erw[q1,c,rfl,q1];cases Z;refine vv ?_;cases c with
 |false=>exact U ou s1 σ H1 Q O q1
 |true=>exact⟨.bl v_,H1,O,1,q1⟩
def Aaz (ha:PE X a ta):PE X (.UnaryOp .Not a pos) (Acf ta):=by
 exists 2,Q,I,h;refine UnaryOp_ (thn (ha ou s σ H _ I h) λv s1 zq=>?_);erw[zq,x,H1,O,U,q1];erw[q1,c,rfl,q1];cases U;exact not_of (vv ⟨.bl (!c),H1,O,1,q1⟩)
nonrec def tIf (t:TT)(ta tb:TE):TE:=λσ H Q=>t σ H λc H1=>if c=v_ then ta σ H1 Q else tb σ H1 Q
def Q2 {c:Expr}(U:PT X c tA)(ha:PE X a ta)(Z:PE X b tb):PE X (.IfExp c a b pos) (tIf tA ta tb):=by
 exists 2,Q,I,h;refine wpAny_IfExp (thn (U ou s σ H _ I h) λd s1 zq=>?_);erw[zq,H1,O,q1];cases d with
 |true=>exact ha ou s1 σ H1 Q O q1
 |false=>exact Z ou s1 σ H1 Q O q1
end
nonrec def SqL (K:o0)(H:Hp)(a:o6)(xs:oq V):Prop:=
 Rd H a (.lst xs)∨
  ∃(o:Obj) (its:Array o7) (n:Nat),K.lookup a=u_ o/\o.cls= .type "list"/\o.dict=U_/\o.data= .seq its n/\its.size<=V5/\iq xs its.toList
nonrec def SqT (K:o0)(H:Hp)(a:o6)(xs:oq V):Prop:=
 Rd H a (.tup xs)∨
  ∃(o:Obj) (its:Array o7) (n:Nat),K.lookup a=u_ o/\o.cls= .type "tuple"/\o.data= .seq its n/\its.size<=V5/\iq xs its.toList
nonrec def Aec:o7->ot V
 | .none=>u_ .non
 | .bool b=>u_ (.bl b)
 | .int i _=>u_ (.int i)
 | .str x _=>u_ (.str x)
 | .bytes b _=>u_ (.byt b)
 | .float b _=>u_ (.flt b)
 | .ref a=>u_ (.ref a)
 | .type n=>u_ (.ty n)
 |_=>U_
variable {x:V}{u:o7}
def ik.abs (r:ik x u):Aec u=u_ x:=by
 cases x with
 |non=>cases r;rfl
 |bl _=>cases r;rfl
 |int _=>erw[r,t,rfl];rfl
 |str _=>erw[r,t,rfl];rfl
 |byt _=>erw[r,t,rfl];rfl
 |flt _=>erw[r,t,rfl];rfl
 |ref _=>cases r;rfl
 |ty _=>cases r;rfl
variable {y:V}
def ik.inj (r:ik x u)(q:ik y u):x=y:=uM (r.abs.symm.trans q.abs)
def iq.inj:∀{xs ys:oq V}{us:oq o7},iq xs us->iq ys us->xs=ys
 |_,_,_,.nil,.nil=>rfl
 |_,_,_,.cons r t,.cons r' t'=>by rw[r.inj r',iq.inj t t']
section
variable {X:Cx}{ou:oq (o6×Obj)}{σ:St}{H:Hp}{s:o9}{a:o6}{xs ys:oq V}
variable {K:o0}
def SqL.of (h:H a=u_ (.lst xs)):SqL K H a xs:= .inl (.inl h)
def SqT.of (h:H a=u_ (.tup xs)):SqT K H a xs:= .inl (.inl h)
def Inv.list (I:#[I])(h:SqL X.K H a xs):∃its:oq o7,iq xs its/\PlainL s.heap a its.toArray/\↑xs<=sizeLine:=by
 rcases h with h|⟨o,its,n,O,U,hd,Z,hz,r⟩
 ·erw[h.ok I.hok,z,its,n,r,e];exact⟨its,r,⟨_,n,e,1,1,1⟩,z⟩
 ·exists its.toList,r,⟨o,n,I.kIn a o O,U,hd,by simpa using Z⟩
  have e:=↑r;simp![vq] at e;omega
def Inv.tuple (I:#[I])(h:SqT X.K H a xs):∃its:oq o7,iq xs its/\Gr s.heap a its.toArray/\↑xs<=sizeLine:=by
 rcases h with h|⟨o,its,n,O,U,Z,hz,r⟩
 ·erw[h.ok I.hok,z,its,r,p];exact⟨its,r,p,z⟩
 ·exists its.toList,r,⟨o,I.kIn a o O,U,n,by simpa using Z⟩
  have e:=↑r;simp![vq] at e;omega
def Inv.list_inj (I:#[I])(h:SqL X.K H a xs)(h':SqL X.K H a ys):xs=ys:=by
 erw[I.list h,its,r,[o,n,e,_,_,d],_];erw[I.list h',its',r',[o',Z,O,_,_,d'],_];rw[e] at O;cases O;rw[d] at d';injection d' with U _
 have:its=its':=by simpa using A9 rT U
 subst this;exact r.inj r'
def Inv.tuple_inj (I:#[I])(h:SqT X.K H a xs)(h':SqT X.K H a ys):xs=ys:=by
 erw[I.tuple h,its,r,[o,e,_,n,d],_];erw[I.tuple h',its',r',[o',O,_,Z,d'],_];rw[e] at O;cases O;rw[d] at d';injection d' with U _
 have:its=its':=by simpa using A9 rT U
 subst this;exact r.inj r'
end
noncomputable abbrev Cx.wish (X:Cx)(E:o7->o9->Prop):Cx:={X with xe:=E}
noncomputable abbrev Cx.nox (X:Cx):Cx:=X.wish λ_ _=>False
def Cx.Ok.wish (ok:X.Ok)(E:o7->o9->Prop):(X.wish E).Ok:=
 ⟨ok.mod,ok.kind,ok.glob,ok.blt,ok.above,ok.inj,ok.has,ok.cab,ok.hd,ok.frames,ok.stk,ok.exf,ok.bs,ok.bsz,ok.noex,ok.exfs,ok.funs,ok.frf⟩
def Cx.Ok.unwish {E:o7->o9->Prop}(ok:(X.wish E).Ok):X.Ok:=
 ⟨ok.mod,ok.kind,ok.glob,ok.blt,ok.above,ok.inj,ok.has,ok.cab,ok.hd,ok.frames,ok.stk,ok.exf,ok.bs,ok.bsz,ok.noex,ok.exfs,ok.funs,ok.frf⟩
section
variable {X:Cx}{ou:oq (o6×Obj)}{σ:St}{H:Hp}{s:o9}{E:o7->o9->Prop}
def Inv.wish (I:#[I])(E:o7->o9->Prop):Inv (X.wish E) ou σ H s:=⟨I.ok.wish E,I.os,I.bare,I.base,I.loc,I.cell,I.free,I.freeC,I.pin,I.hok,I.len,I.tk⟩
def Inv.unwish (I:Inv (X.wish E) ou σ H s):#[I]:=⟨I.ok.unwish,I.os,I.bare,I.base,I.loc,I.cell,I.free,I.freeC,I.pin,I.hok,I.len,I.tk⟩
def SP.unwish {D:mL}{f:Flow}{s':o9}(h:SP (X.wish E) ou D f s'):SP X ou D f s':=by
 cases f with
 |next=>erw[h,O,H',I,q];exact⟨O,H',I.unwish,q⟩
 |brk=>erw[h,O,H',I,q];exact⟨O,H',I.unwish,q⟩
 |cont=>erw[h,O,H',I,q];exact⟨O,H',I.unwish,q⟩
 |ret u=>erw[h,v,O,H',I,r,q];exact⟨v,O,H',I.unwish,r,q⟩
def PSs.nox {st:oq Stmt}{t:TS}(h:PSs X.nox st t):PSs X st t:=λou s σ H D I hw=>
 vt (h ou s σ H D (I.wish _) hw) (λ_ _ q=>q.unwish) λ_ _ z=>Vk z
end
section
variable {X:Cx}{st:Stmt}{rest:oq Stmt}{t u:TS}{e:Expr}{te:TE}{pos:Pos}
nonrec def Sr:TS:=λD σ H=>D.nx σ H
nonrec def ni (t u:TS):TS:=λD σ H=>t {D with nx:=u D} σ H
def qv:PSs X [] Sr:=λ_ _ σ H _ I h=>Ul ⟨σ,H,I,h⟩
def qc (h1:PS X st t)(h2:PSs X rest u):PSs X (st::rest) (ni t u):=by
 exists 2,D,I,h;refine tN (thn (h1 ou s σ H {D with nx:=u D} I h) λf s1 q=>?_)
 cases f with
 |next=>
  erw[q,O,H',U,q];exact h2 ou s1 O H' D U q
 |ret v=>exact q
 |brk=>exact q
 |cont=>exact q
def qe (h1:PS X st t):PSs X [st] t:=by
 exists 2,D,I,h;refine tN (thn (h1 ou s σ H D I h) λf s1 q=>?_);cases f with
 |next=>exact Ul q
 |ret v=>exact q
 |brk=>exact q
 |cont=>exact q
nonrec def SQ:TS:=λD σ H=>D.bk σ H
nonrec def Acl:TS:=λD σ H=>D.ct σ H
def NW:PS X (.Pass pos) Sr:=λ_ _ σ H _ I h=>wpAny_Pass ⟨σ,H,I,h⟩
def KC:PS X (.Break pos) SQ:=λ_ _ σ H _ I h=>wpAny_Break ⟨σ,H,I,h⟩
def Aj:PS X (.Continue pos) Acl:=λ_ _ σ H _ I h=>wpAny_Continue ⟨σ,H,I,h⟩
variable {ou:oq (o6×Obj)}{σ:St}
def Inv.quiet (I:#[I]):FA X.env=false:=by simp[FA,I.ok.kind]
nonrec def Aci (te:TE):TS:=λD σ H=>te σ H λ_ H1=>D.nx σ H1
def qY (O:PE X e te)(U:GB e U_ pos.line X.env=pure V1):PS X (.Expr e pos) (Aci te):=by
 exists 2,D,I,h;exact rM (thn (O ou s σ H _ I h) λv s1 ⟨x,H1,Z,r1,q1⟩=>⟨σ,H1,Z,q1⟩) I.quiet U
nonrec def AdK (te:TE):TS:=λD σ H=>te σ H D.rt
def qq (O:PE X e te):PS X (.Return (u_ e) pos) (AdK te):=by
 exists 2,D,I,h;exact wpAny_Return_some (thn (O ou s σ H _ I h) λv s1 ⟨x,H1,U,Z,q1⟩=>⟨x,σ,H1,U,Z,q1⟩)
nonrec def Acd:TS:=λD _ H=>D.rt .non H
def NV:PS X (.Return U_ pos) Acd:=λ_ _ σ H _ I h=>wpAny_Return_none ⟨.non,σ,H,I,1,h⟩
nonrec def Adn (c:TT)(t u:TS):TS:=λD σ H=>c σ H λb H1=>if b=v_ then t D σ H1 else u D σ H1
def qM {c:Expr}{a b:oq Stmt}{tc:TT}(U:PT X c tc)(ha:PSs X a t)(Z:PSs X b u):PS X (.If c a b pos) (Adn tc t u):=by
 exists 2,D,I,h;refine wpAny_If (thn (U ou s σ H _ I h) λd s1 zq=>?_);erw[zq,H1,O,q1];cases d with
 |true=>exact ha ou s1 σ H1 D O q1
 |false=>exact Z ou s1 σ H1 D O q1
nonrec def Su:TS:=λ_ _ _=>False
def JQ:PS X st Su:=λ_ _ _ _ _ _ h=>h.elim
end
noncomputable abbrev TG:=V->St->Hp->(St->Hp->Prop)->Prop
noncomputable abbrev TGs:=oq V->St->Hp->(St->Hp->Prop)->Prop
nonrec def PG (X:Cx)(target:Expr)(t:TG):Prop:=
 ∀(ou:oq (o6×Obj)) (s:o9) (σ:St) (H:Hp) (v:V) (u:o7) (Q:St->Hp->Prop),#[I]->ik v u->t v σ H Q->
  V2 #[X,X] X.A (VX target X.env u) (λ_ s'=>∃σ' H',Inv X ou σ' H' s'/\Q σ' H') X.xe s
nonrec def PGs (X:Cx)(ts:oq Expr)(t:TGs):Prop:=
 ∀(ou:oq (o6×Obj)) (s:o9) (σ:St) (H:Hp) (vs:oq V) (us:oq o7) (Q:St->Hp->Prop),#[I]->iq vs us->t vs σ H Q->
  V2 #[X,X] X.A (assignInOrder ((gP ts X.env).map (·.2)) us) (λ_ s'=>∃σ' H',Inv X ou σ' H' s'/\Q σ' H') X.xe s
noncomputable abbrev Ac7:=V->V->V->Hp->(Hp->Prop)->Prop
nonrec def AdE (X:Cx)(t:Ac7):Prop:=
 ∀(ou:oq (o6×Obj)) (s:o9) (σ:St) (H:Hp) (o i v:V) (ov iv u:o7) (Q:Hp->Prop),#[I]->ik o ov->ik i iv->ik v u->t o i v H Q->
  V2 #[X,X] X.A (Tl ov iv u) (λ_ s'=>∃H',Inv X ou σ H' s'/\Q H') X.xe s
noncomputable abbrev TIp:=V->V->Hp->VK->Prop
nonrec def PIp (X:Cx)(op:GK)(t:TIp):Prop:=
 ∀(ou:oq (o6×Obj)) (s:o9) (σ:St) (H:Hp) (x y:V) (v u:o7) (Q:VK),#[I]->ik x v->ik y u->t x y H Q->
  V2 #[X,X] X.A (Hx op v u) (EP X ou σ Q) X.xe s
section
variable {X:Cx}{pos:Pos}
nonrec def YV (i:Nat):TG:=λv σ H Q=>Q (σ.set i (u_ v)) H
def qN {i:Nat}{x:Str}(O:X.N.Nodup)(hi:X.N[i]? =u_ x)(U:Loc X.env.scope x)(Z:X.fn x=v_∨X.env.scope.names.lookup x=u_ .local):PG X (.Name x pos) (YV i):=by
 exists 2,v,u,Q,I,r,h;exact RL (Kf I O hi U r (λs' I'=>⟨_,H,I',h⟩) Z)
nonrec def Adz:TGs:=λvs σ H Q=>vs= []/\Q σ H
nonrec def Pe (t:TG)(u:TGs):TGs:=λvs σ H Q=>∃v r,vs=v::r/\t v σ H λσ' H'=>u r σ' H' Q
def xx:PGs X [] Adz:=by
 exists 2,vs,us,Q,I,r,h;erw[h,e,h];subst e;cases r;exact assignInOrder_nil ⟨σ,H,I,h⟩
def QD {e:Expr}{es:oq Expr}{t:TG}{u:TGs}(h1:PG X e t)(h2:PGs X es u)
  (O:(gP (e::es) X.env).map (·.2)=VX e X.env::(gP es X.env).map (·.2):=by rfl):PGs X (e::es) (Pe t u):=by
 exists 2,vs,us,Q,I,r,h;erw[h,v,vr,U,h];subst U;cases r with
 |cons r Z=>
  rw[O];refine assignInOrder_cons (thn (h1 ou s σ H _ _ _ I r h) λ_ s1 zq=>?_);erw[zq,σ1,H1,I1,q1];exact h2 ou s1 σ1 H1 _ _ Q I1 Z q1
nonrec def AcW (K:o0)(n:Nat)(t:TGs):TG:=λv σ H Q=>∃a xs,v= .ref a/\SqT K H a xs/\↑xs=n/\t xs σ H Q
def Wl {es:oq Expr}{k:Nat}{t:TGs}{n:Nat}(Z:X.calm=v_)(h:PGs X es t)
  (hn:↑(gP es X.env)=n:=by rfl) (O:(gP es X.env).findIdx? (·.1)=none:=by rfl):PG X (.Tuple es k pos) (AcW X.K n t):=by
 exists 2,v,u,Q,I,r,U;erw[U,a,xs,e1,hq,hl,U];subst e1;cases r;erw[I.tuple hq,its,rv,ht,hz];refine assign_Tuple_tuple (I.ok.hd Z) ht (by simp[hn,<-hl,rv.length]) O λh' hx=>?_
 have I1:Inv X ou σ H {s with heap:=h'}:=I.kept (t':=s.toks) λb o e=>hx b o (v7 (uK e)) e
 exact h ou _ σ H xs _ Q I1 (by simpa using rv) U
nonrec def Aea (to ti:TE)(t:Ac7):TG:=λv σ H Q=>to σ H λo H1=>ti σ H1 λi H2=>t o i v H2 λH3=>Q σ H3
def Aaw {o i:Expr}{to ti:TE}{t:Ac7}(U:PE X o to)(hi:PE X i ti)(Z:AdE X t)
  (ha:∀v,VX (.Subscript o i pos) X.env v=(do
   let ov<-VR [v] (eval o X.env)
   let O<-VR [v,ov] (eval i X.env)
   G6 pos
   VR [v,ov,O] (Tl ov O v)
   release [v,ov,O] [])):PG X (.Subscript o i pos) (Aea to ti t):=by
 exists 2,v,u,Q,I,r,h;rw[ha];refine A7 (VJ (thn (U ou s σ H _ I h) λov s1 zq=>?_));erw[zq,x,H1,I1,r1,q1];refine A7 (VJ (thn (hi ou s1 σ H1 _ I1 q1) λO s2 zq=>?_));erw[zq,y,H2,I2,r2,q2];refine A7 (TC (A7 (VJ (thn (Z ou s2 σ H2 x y v ov O u _ I2 r1 r2 r q2) λ_ s3 zq=>?_))));erw[zq,H3,I3,q3];exact wpAny_release ⟨σ,H3,I3,q3⟩
nonrec def Acn (te:TE)(g:TG):TS:=λD σ H=>te σ H λx H1=>g x σ H1 D.nx
def Mb {tg e:Expr}{te:TE}{g:TG}(O:PE X e te)(U:PG X tg g)(Z:swapsWithSole [tg] e pos.line X.env=pure V1)(hw:swappedStores [tg] e X.env=pure U_)
  (h1:(gP [tg] X.env).map (·.2)= [VX tg X.env]):PS X (.Assign [tg] e pos) (Acn te g):=by
 exists 2,D,I,h;refine wpAny_Assign_stores (thn (O ou s σ H _ I h) λv s1 zq=>?_) Z hw;erw[zq,x,H1,I1,r1,q1];rw[h1];exact thn (U ou s1 σ H1 x v _ I1 r1 q1) λ_ s2 q=>q
def qH {i:Nat}{x:Str}{e:Expr}{te:TE}{pos':Pos}(O:X.N.Nodup)(hi:X.N[i]? =u_ x)(U:Loc X.env.scope x)(Z:PE X e te)(hs:GB e (u_ (.Name x pos')) pos.line X.env=pure V1)(hf:X.fn x=v_∨X.env.scope.names.lookup x=u_ .local):
  PS X (.Assign [.Name x pos'] e pos) (Acn te (YV i)):=by
 exists 2,D,I,h;refine wpAny_Assign_Name (thn (Z ou s σ H _ I h) λv s1 zq=>?_) hs;erw[zq,y,H1,I1,r1,q1];exact Kf I1 O hi U r1 (λs2 I2=>⟨_,H1,I2,q1⟩) hf
inductive AdR (i:Nat)(te:TE)(ti:TIp)(D:mL)(σ:St)(H:Hp):Prop
 |mk (x:_)(_:σ[i]? =u_ (u_ x))(_:te σ H λy H1=>ti x y H1 λz H2=>D.nx (σ.set i (u_ z)) H2)
def Ma {i:Nat}{x:Str}{e:Expr}{te:TE}{Z:GK}{ti:TIp}{pos':Pos}(hN:X.N.Nodup)(hi:X.N[i]? =u_ x)(hx:Loc X.env.scope x)(he:PE X e te)(ho:PIp X Z ti)(hf:X.fn x=v_∨X.env.scope.names.lookup x=u_ .local):
  PS X (.AugAssign (.Name x pos') Z e pos) (AdR i te ti):=by
 exists 2,D,I,h;erw[h,v,e1,h];erw[I.loc,m,hn,hl];have aa:Vis X.env.scope x:=by rcases hx with k|k;exact .inl k;exact .inr (.inl k)
 erw[hl i x v hi e1 aa,u,r,l];refine wpAny_AugAssign_Name ?_;have go:V2 #[X,X] X.A (eval e X.env) (λw s₂=>V2 #[X,X] X.A (Hx Z u w) (λr s₃=>V2 #[X,X] X.A (hV X.env x r) (λ_=>SP X ou D .next) X.xe s₃) X.xe s₂) X.xe s:=by
  refine thn (he ou s σ H _ I h) λw s1 zq=>?_;erw[zq,y,H1,I1,r1,q1];refine thn (ho ou s1 σ H1 v y u w _ I1 r r1 q1) λz s2 zq=>?_;erw[zq,zv,H2,I2,r2,q2];exact Kf I2 hN hi hx r2 (λs3 I3=>⟨_,H2,I3,q2⟩) hf
 rcases l with⟨O,hm⟩|⟨O,c,hc,U⟩
 ·exact RQ I.ok.kind O hn hm go
 ·rcases O with O|O
  ·exact FW I.ok.kind O hc U go
  ·rcases hx with k|k
   ·have:X.env.scope.names.lookup x=u_ .free:=O;rw[k] at this;cases this
   ·have:X.env.scope.names.lookup x=u_ .free:=O;rw[k] at this;cases this
nonrec def ipI (f:Int->Int->Int):TIp:=λx y H Q=>∃i j,x= .int i/\y= .int j/\Q (.int (f i j)) H
def Mz:PIp X .Add (ipI λi j=>i+j):=by
 exists 2,x,y,v,u,Q,I,O,U,h;erw[h,i,j,Z,e2,q];subst Z;subst e2;erw[O,t,rfl];erw[U,t',rfl];exact iadd_int ⟨.int _,H,I.tok _,⟨0⟩,q⟩
nonrec def LV (c:TT)(tb:TS):TS:=λD σ H=>∃W:Nat->St->Hp->Prop,(∃m,W m σ H)/\∀m σ H,W m σ H->
 c σ H λb H1=>if b=v_ then∃N:St->Hp->Prop,(∀σ' H',N σ' H'->∃m',m'<m/\W m' σ' H')/\tb {D with nx:=N,ct:=N,bk:=D.nx} σ H1 else D.nx σ H1
def Xr {c:Expr}{O:oq Stmt}{tc:TT}{tb:TS}(hp:PassesOwn #[X,X] X.A X.env X.xe)(hc:PT X c tc)(hb:PSs X O tb):PS X (.While c O [] pos) (LV tc tb):=by
 exists 2,D,I,h;erw[h,W,[m0,w0],U];refine wpAny_While (codeAny_whileLoop (λn s'=>∃σ' H',Inv X ou σ' H' s'/\W n σ' H') ?_ m0 ⟨σ,H,I,w0⟩);rintro n s1 ⟨σ1,H1,I1,w1⟩;refine Ua hp (thn (hc ou s1 σ1 H1 _ I1 (U n σ1 H1 w1)) λb s2 zq=>?_);erw[zq,H2,I2,q2];cases b with
 |true=>
  erw[q2,N,hN,q2];rw[A6 rfl];refine Ua hp (thn (hb ou s2 σ1 H2 _ I2 q2) λf s3 q3=>?_);cases f with
  |next=>
   erw[q3,Z,H3,I3,n3];erw[hN Z H3 n3,m',hm,w3];exact⟨m',hm,Z,H3,I3,w3⟩
  |cont=>
   erw[q3,Z,H3,I3,n3];erw[hN Z H3 n3,m',hm,w3];exact⟨m',hm,Z,H3,I3,w3⟩
  |brk=>exact q3
  |ret v=>exact q3
 |false=>
  rw[A4 ub];exact Ul ⟨σ1,H2,I2,q2⟩
end
structure It where
 go:Nat->Hp->Prop
 yld:Nat->Hp->V->Hp->Prop
 stop:Nat->Hp->Prop
nonrec def AQ (X:Cx)(ou:oq (o6×Obj))(H:Hp)(b:o6):Prop:=
 H b=U_/\b≠X.env.locals/\b∉X.fs/\(b∈X.ex∨X.s₀.heap.objs.size<=b)/\(∀x c,X.env.cells.lookup x=u_ c->c≠b)/\∀p∈X.pn++ou,p.1≠b
variable {ou:oq (o6×Obj)}{σ:St}{H':Hp}
def Inv.fpOk (I:#[I])(O:#[0,s]<=b)(hn:H' b=U_):AQ X ou H' b:=by
 exists hn,U4 (Vf I.lt O),I.nofs O,.inr (vg I.sz O),λx c e z=>?_,λp U z=>?_
 ·erw[I.cell x c e,v,q];exact A8 (Vf q.lt (by rwa[z])) (vL _)
 ·exact A8 (Vf (uK (I.pin p U).1) (by rwa[z])) (vL _)
structure MO (P:oh)(w:oj)(K:o0)(tg:Expr)(J:It)(fp:oq o6)(it:o6)(tn:Nat->og->Prop):Prop where
 mem:it∈fp
 obj:∀i h,tn i h->∀b∈fp,∃o,h.get? b=u_ o/\∀v,o.data≠ .cell v
 keep:∀i h h',tn i h->(∀b∈fp,∀o,h.get? b=u_ o->h'.get? b=u_ o)->tn i h'
 item:∀(X:Cx),X.prog=P->X.w=w->X.K=K->X.calm=v_->∀(i:Nat) (ou:oq (o6×Obj)) (s:o9) (σ:St) (H:Hp) (E:o7->o9->Prop),#[I]->(∀b∈fp,AQ X ou H b)->tn i s.heap->J.go i H->
  V2 (Vg P w) X.A (Vu (.ref it)) (λr s1=>∃u,r=u_ u/\
   V2 (Vg P w) X.A (Hj tg (.ref it) u) (λ_ s2=>∃x H',Inv X ou σ H' s2/\ik x u/\J.yld i H x H'/\tn (i+1) s2.heap/\∀b∈fp,H' b=U_) E s1) E s
 done:∀(X:Cx),X.prog=P->X.w=w->X.K=K->X.calm=v_->∀(i:Nat) (ou:oq (o6×Obj)) (s:o9) (σ:St) (H:Hp) (E:o7->o9->Prop),#[I]->(∀b∈fp,AQ X ou H b)->tn i s.heap->J.stop i H->
  V2 (Vg P w) X.A (Vu (.ref it)) (λr s1=>r=U_/\Inv X ou σ H s1) E s
 self:∀(A:om) (i:Nat) (s:o9) (Q:o7->o9->Prop) (E:o7->o9->Prop),tn i s.heap->Q (.ref it) s->V2 (Vg P w) A (Hw (.ref it)) Q E s
noncomputable abbrev TI:=St->Hp->(It->Hp->Prop)->Prop
nonrec def PIE (X:Cx)(ou:oq (o6×Obj))(σ:St)(tg:Expr)(R:It->Hp->Prop)(itv:o7)(s2:o9):Prop:=
 ∃(it:o6) (fp:oq o6) (tn:Nat->og->Prop) (J:It) (H':Hp),itv= .ref it/\Inv X ou σ H' s2/\MO X.prog X.w X.K tg J fp it tn/\tn 0 s2.heap/\(∀b∈fp,AQ X ou H' b)/\R J H'
nonrec def PI (X:Cx)(tg iter:Expr)(wi:TI):Prop:=
 ∀(ou:oq (o6×Obj)) (s:o9) (σ:St) (H:Hp) (R:It->Hp->Prop),#[I]->wi σ H R->
  V2 #[X,X] X.A (eval iter X.env) (λv s1=>V2 #[X,X] X.A (Hw v) (PIE X ou σ tg R) X.xe s1) X.xe s
def EM {M:Gi}{A:om}{E:o7->o9->Prop}{s:o9}{tg:Expr}{it:o6}{u:o7}{o:Obj}{n:String}{vs:Array o7}{Q:Unit->o9->Prop}(U:s.heap.get? it=u_ o)(Z:o.cls= .type n)(hd:o.data= .fields vs)
  (hn: ["enumerate","zip","dict_itemiterator","dict_reverseitemiterator","odict_iterator","itertools.zip_longest","itertools.pairwise"].contains n=V1) (O:Q V_ s):V2 M A (Hj tg (.ref it) u) Q E s:=by
 unfold Hj;cases tg<;>first
  |exact uF O
  |(cases u<;>first
    |exact uF O
    |(refine A7 (Ho U ?_)
      rw[Z,hd];show V2 M A (if(["enumerate","zip","dict_itemiterator","dict_reverseitemiterator","odict_iterator","itertools.zip_longest","itertools.pairwise"].contains n&&vs[0]? ==u_ (Vw _))=v_ then _ else _) Q E s
      rw[A4 (by intro h;rw[hn,T6] at h;cases h)]
      exact uF O))
nonrec def Itl (K:o0)(a:o6):It:=
 ⟨λi H=>∃xs x,SqL K H a xs/\xs[i]? =u_ x,λi H x H'=>H'=H/\∀xs,SqL K H a xs->xs[i]? =u_ x,λi H=>∃xs,SqL K H a xs/\↑xs<=i⟩
nonrec def Itt (K:o0)(a:o6):It:=
 ⟨λi H=>∃xs x,SqT K H a xs/\xs[i]? =u_ x,λi H x H'=>H'=H/\∀xs,SqT K H a xs->xs[i]? =u_ x,λi H=>∃xs,SqT K H a xs/\↑xs<=i⟩
nonrec def Itr (lo:Int)(n:Nat):It:=[λi _=>i<n:λi H x H'=>H'=H/\x= .int (lo+i):λi _=>n<=i]
variable {K:o0}{tg:Expr}
def C3 {P:oh}(a it:o6):MO P w K tg (Itl K a) [it] it (λi h=>h.IsListIter it a i) where
 mem:=by simp
 obj:=λi h st b O=>by
  have e:b=it:=by simpa using O
  subst e;erw[st,o,e,c,d];exact⟨o,e,λv z=>by rw[d] at z;cases z⟩
 keep:=λi h h' st k=>st.at λo e=>k it (by simp) o e
 item:=by
  intro X hP hw hK hc i ou s σ H E I Z st hg;subst hP hw hK;erw[hg,xs,x,hq,hx];erw[I.list hq,its,rv,p,hz];erw[rv.get hx,u,hu,ru];obtain⟨f0,f1,f2,f3,f4,f5⟩:=Z it (by simp)
  refine FQ st p.isList (x:=u) (by simpa using hu) λh' U sb=>?_
  have I1:Inv X ou σ H {s with heap:=h'}:=I.turned (t':=s.toks) (λb o O e=>(sb.2 b O).trans e) f0 f1 f3 f4 f5
  erw[id U,o,e,c,d];exact⟨u,1,EM (s:={s with heap:=h'}) e c d () ⟨x,H,I1,ru,⟨1,λys hy=>by rwa[I.list_inj hy hq]⟩,U,λb O=>(Z b O).1⟩⟩
 done:=by
  intro X hP hw hK hc i ou s σ H E I Z st hg;subst hP hw hK;erw[hg,xs,hq,hx];erw[I.list hq,its,rv,p,hz];obtain⟨f0,f1,f2,f3,f4,f5⟩:=Z it (by simp)
  have hl:=↑rv;exact rP (I.ok.hd hc) st p.isList (by simp;omega) λh' eb=>[1:I.turned (t':=s.toks) (λb o O e=>eb b o O e) f0 f1 f3 f4 f5]
 self:=λ_ _ _ _ _ st h=>wpAny_pyIter_listiter st h
def WK {P:oh}(a it:o6):MO P w K tg (Itt K a) [it] it (λi h=>h.IsTupleIter it a i) where
 mem:=by simp
 obj:=λi h st b O=>by
  have e:b=it:=by simpa using O
  subst e;erw[st,o,e,c,d];exact⟨o,e,λv z=>by rw[d] at z;cases z⟩
 keep:=λi h h' st k=>st.at λo e=>k it (by simp) o e
 item:=by
  intro X hP hw hK hc i ou s σ H E I Z st hg;subst hP hw hK;erw[hg,xs,x,hq,hx];erw[I.tuple hq,its,rv,p,hz];erw[rv.get hx,u,hu,ru];obtain⟨f0,f1,f2,f3,f4,f5⟩:=Z it (by simp)
  refine wpAny_pyNext_tuple_item st (show s.heap.IsTuple a its.toArray from p) (x:=u) (by simpa using hu) λh' U sb=>?_
  have I1:Inv X ou σ H {s with heap:=h'}:=I.turned (t':=s.toks) (λb o O e=>(sb.2 b O).trans e) f0 f1 f3 f4 f5
  erw[id U,o,e,c,d];exact⟨u,1,EM (s:={s with heap:=h'}) e c d () ⟨x,H,I1,ru,⟨1,λys hy=>by rwa[I.tuple_inj hy hq]⟩,U,λb O=>(Z b O).1⟩⟩
 done:=by
  intro X hP hw hK hc i ou s σ H E I Z st hg;subst hP hw hK;erw[hg,xs,hq,hx];erw[I.tuple hq,its,rv,p,hz];obtain⟨f0,f1,f2,f3,f4,f5⟩:=Z it (by simp)
  have hl:=↑rv;exact wpAny_pyNext_tuple_end (I.ok.hd hc) st (show s.heap.IsTuple a its.toArray from p) (by simp;omega) λh' eb=>[1:I.turned (t':=s.toks) (λb o O e=>eb b o O e) f0 f1 f3 f4 f5]
 self:=λ_ _ _ _ _ st h=>wpAny_pyIter_tupleiter st h
def B9 {P:oh}(it:o6)(lo:Int)(n:Nat):MO P w K tg (Itr lo n) [it] it (λi h=>rE h it (lo+(i:Nat)*1) ((n:Int)-(i:Nat)) 1) where
 mem:=by simp
 obj:=λi h st b O=>by
  have e:b=it:=by simpa using O
  subst e;exact⟨_,st,λv z=>by
   have z':Data.fields _=Data.cell v:=z;cases z'⟩
 keep:=λi h h' st k=>k it (by simp) _ st
 item:=by
  intro X hP hw hK hc i ou s σ H E I Z st hg;subst hP hw hK;obtain⟨f0,f1,f2,f3,f4,f5⟩:=Z it (by simp)
  have W:=Walks.range (prog:=X.prog) (w:=X.w) (I.ok.hd hc) it lo 1 n;refine vm (n:=1) I.tk (W.item i s _ _ hg st λv h' tk hv U kk=>?_);intro htk;erw[hv,t,rfl];have I1:Inv X ou σ H {s with heap:=h',toks:=tk}:=I.turned (λb o O e=>kk b o (by simpa using O) e) f0 f1 f3 f4 f5
  exists 0,EM (s:={s with heap:=h',toks:=tk}) (n:="range_iterator") U rfl rfl () ⟨.int (lo+i),H,I1,[t:?_],[1:1],U,λb O=>(Z b O).1⟩
  rw[Int.mul_one]
 done:=by
  intro X hP hw hK hc i ou s σ H E I Z st hg;subst hP hw hK;obtain⟨f0,f1,f2,f3,f4,f5⟩:=Z it (by simp)
  exact wpAny_pyNext_range_end (I.ok.hd hc) st (by have:n<=i:=hg;omega) λh' eb=>[1:I.turned (t':=s.toks) (λb o O e=>eb b o O e) f0 f1 f3 f4 f5]
 self:=λ_ _ _ _ _ st h=>wpAny_pyIter_rangeiter st h
section
variable {X:Cx}{tg:Expr}
inductive AbV (K:PySem.W.Frag)(R:(It->Hp->Prop))(x:V)(H1:Hp):Prop
 |mk (a:_)(_:x= .ref a)(_:(∃xs,SqL K H1 a xs))(_:R (Itl K a) H1)
nonrec def AcR (K:o0)(tl:TE):TI:=λσ H R=>tl σ H λx H1=>AbV K R x H1
inductive Adf (K:PySem.W.Frag)(R:(It->Hp->Prop))(x:V)(H1:Hp):Prop
 |mk (a:_)(_:x= .ref a)(_:(∃xs,SqT K H1 a xs))(_:R (Itt K a) H1)
nonrec def Ad7 (K:o0)(tl:TE):TI:=λσ H R=>tl σ H λx H1=>Adf K R x H1
def xm {l:Expr}{tl:TE}(U:PE X l tl):PI X tg l (AcR X.K tl):=by
 exists 2,R,I,h;refine thn (U ou s σ H _ I h) λv s1 zq=>?_;erw[zq,x,H1,O,Z,q1];erw[q1,a,e,[xs,hq],q];subst e;cases Z;erw[O.list hq,its,rv,p,hz];refine UR p.isList ?_;exists #[0,s1],[#[0,s1]],_,_,H1,1,O.kept (t':=s1.toks) λb o e=>ud _ e,C3 a _,⟨_,uL _ rfl,1,1⟩,λb hb=>?_,q;have e:b=#[0,s1]:=by simpa using hb
 subst e;exact O.fpOk (uA _) (O.hok.fresh (uA _))
def pi_tup {l:Expr}{tl:TE}(U:PE X l tl):PI X tg l (Ad7 X.K tl):=by
 exists 2,R,I,h;refine thn (U ou s σ H _ I h) λv s1 zq=>?_;erw[zq,x,H1,O,Z,q1];erw[q1,a,e,[xs,hq],q];subst e;cases Z;erw[O.tuple hq,its,rv,p,hz];refine U5 (show s1.heap.IsTuple a its.toArray from p) ?_
 exists #[0,s1],[#[0,s1]],_,_,H1,1,O.kept (t':=s1.toks) λb o e=>ud _ e,WK a _,⟨_,uL _ rfl,1,1⟩,λb hb=>?_,q;have e:b=#[0,s1]:=by simpa using hb
 subst e;exact O.fpOk (uA _) (O.hok.fresh (uA _))
def Bg {ou:oq (o6×Obj)}{σ:St}{H:Hp}{s:o9}{R:It->Hp->Prop}{E:o7->o9->Prop}{lo hi:Int}{t u v:Tok}{tk:Nat}(I:#[I])(h1: -(2^62)<=lo)(h2:lo<2^62)(h3: -(2^62)<=hi)(h4:hi<2^62)
  (q:R (Itr lo (hi-lo).toNat) H) (htk:0<tk:=by ac_rfl):V2 #[X,X] X.A (Hw (.ref #[0,s])) (PIE X ou σ tg R) E {s with heap:=s.heap.push {cls:= .type "range",data:= .fields #[.int lo t,.int hi u,.int 1 v]},toks:=tk}:=by
 refine wpAny_pyIter_range (IsRange.new ..) (small_one h1 h2 h3 h4) ?_;have O:Inv X ou σ H {s with heap:=s.heap.push {cls:= .type "range",data:= .fields #[.int lo t,.int hi u,.int 1 v]},toks:=tk}:=I.kept λb o e=>ud _ e
 refine⟨(s.heap.push {cls:= .type "range",data:= .fields #[.int lo t,.int hi u,.int 1 v]}).objs.size,[(s.heap.push {cls:= .type "range",data:= .fields #[.int lo t,.int hi u,.int 1 v]}).objs.size],_,_,H,1,
  O.kept (t':=tk) λb o e=>ud _ e,B9 _ lo (hi-lo).toNat,?_,λb U=>?_,q⟩
 ·have Z:lo+((0:Nat):Int)*1=lo:=by simp
  have e2:(((hi-lo).toNat:Nat):Int)-((0:Nat):Int)=pU lo hi 1:=by rw[rangeSize_one];split<;>omega
  show rE _ _ (lo+((0:Nat):Int)*1) ((((hi-lo).toNat:Nat):Int)-((0:Nat):Int)) 1;rw[Z,e2];exact uL _ rfl
 ·have e:b=(s.heap.push {cls:= .type "range",data:= .fields #[.int lo t,.int hi u,.int 1 v]}).objs.size:=by simpa using U
  subst e;exact O.fpOk (uA _) (O.hok.fresh (uA _))
inductive AbU (R:(It->Hp->Prop))(vs:List V)(H1:Hp):Prop
 |mk (j:Int)(_:vs= [.int j])(_: -(2^62)<=j)(_:j<2^62)(_:R (Itr 0 j.toNat) H1)
nonrec def AcQ (ta:TA):TI:=λσ H R=>ta σ H λvs H1=>AbU R vs H1
inductive AbT (R:(It->Hp->Prop))(vs:List V)(H1:Hp):Prop
 |mk (i j:Int)(_:vs= [.int i,.int j])(_:(-(2^62)<=i/\i<2^62/\ -(2^62)<=j/\j<2^62))(_:R (Itr i (j-i).toNat) H1)
nonrec def AcP (ta:TA):TI:=λσ H R=>ta σ H λvs H1=>AbT R vs H1
def jn {a:Expr}{ta:TA}{p pos:Pos}(O:Gl X "range")(hm:X.mg "range"=U_)(ha:PA X [a] ta)(U:V6 [a] X.env= [(V1,eval a X.env)]):PI X tg (.Call (.Name "range" p) [a] [] pos) (AcQ ta):=by
 exists 2,R,I,h;refine hX (wJ I O hm boot_range (vD (thn (ha pos ou s σ H _ I h) λus s1 zq=>?_) U rfl));erw[zq,vs,H1,Z,r1,q1];erw[q1,j,e,q1,q2,q];subst e;cases r1 with
 |cons r rr=>
  cases rr;erw[r,t,rfl];exact call_range_1 (Bg Z () () q1 q2 (by simpa using q))
def DN {a b:Expr}{ta:TA}{p pos:Pos}(Z:Gl X "range")(hm:X.mg "range"=U_)(ha:PA X [a,b] ta)(hs:V6 [a,b] X.env= [(V1,eval a X.env),(V1,eval b X.env)])(O:V6 [b] X.env= [(V1,eval b X.env)]):
  PI X tg (.Call (.Name "range" p) [a,b] [] pos) (AcP ta):=by
 exists 2,R,I,h;refine hX (wJ I Z hm boot_range (vD (thn (ha pos ou s σ H _ I h) λus s1 zq=>?_) (by rw[hs,O]) (by rw[O];rfl)));erw[zq,vs,H1,I1,r1,q1]
 erw[q1,i,j,e,[q1,q2,q3,q4],q];subst e;cases r1 with
 |cons r U=>
  cases U with
  |cons r' U=>
   cases U;erw[r,t,rfl];erw[r',t',rfl];exact call_range_2 (Bg I1 q1 q2 q3 q4 q)
nonrec def Ado (wi:TI)(g:TG)(tb:TS):TS:=λD σ H=>wi σ H λJ H1=>∃W:Nat->Nat->St->Hp->Prop,(∃m,W 0 m σ H1)/\∀i m σ H,W i m σ H->
 (J.stop i H/\D.nx σ H)∨(J.go i H/\∃N:St->Hp->Prop,(∀σ' H',N σ' H'->∃m',m'<m/\W (i+1) m' σ' H')/\∀x H',J.yld i H x H'->g x σ H' λσ2 H2=>tb {D with nx:=N,ct:=N,bk:=D.nx} σ2 H2)
nonrec def oo (fp:oq o6)(h:og):oq (o6×Obj):=fp.filterMap λb=>(h.get? b).map λo=>(b,o)
def JP {fp:oq o6}{o:Obj}(O:b∈fp)(e:h.get? b=u_ o):(b,o)∈oo fp h:=List.mem_filterMap.mpr ⟨b,O,by rw[e];rfl⟩
def Ef {fp:oq o6}{p:o6×Obj}(O:p∈oo fp h):p.1∈fp/\h.get? p.1=u_ p.2:=by
 erw[List.mem_filterMap.mp O,b,U,e];cases q:h.get? b with
 |none=>rw[q] at e;cases e
 |some o=>
  rw[q] at e;have Z:(b,o)=p:=uM e;subst Z;exact[U:q]
def Inv.pinned {fp:oq o6}(I:#[I])(Z:∀b∈fp,AQ X ou H b)(ho:∀b∈fp,∃o,s.heap.get? b=u_ o/\∀v,o.data≠ .cell v):Inv X (ou++oo fp s.heap) σ H s:=
 I.pins_of λp hp=>(Ac.mp hp).elim (λz=>I.pin p (uP _ z)) λz=>by
  erw[Ef z,O,e];erw[Z p.1 O,f0,f1,f2,_];erw[ho p.1 O,o,U,d];rw[e] at U;cases U;exact⟨e,f0,f1,f2,d⟩
def Inv.unpinned {pl:oq (o6×Obj)}(I:Inv X (ou++pl) σ H s):#[I]:=I.pins_of λp O=>I.pin p (uP _ (vh _ O))
def yJ {O:Expr}{ac:oq Stmt}{wi:TI}{g:TG}{tb:TS}{pos:Pos}(hp:PassesOwn #[X,X] X.A X.env X.xe)(hc:X.calm=v_)(hi:PI X tg O wi)(hg:PG X tg g)(U:PSs X ac tb)
  (hs:∀x,tS O X.env x=pure x):PS X (.For tg O ac [] pos) (Ado wi g tb):=by
 exists 2,D,I,h;refine wpAny_For (thn (hi ou s σ H _ I h) λv s1 h1=>thn h1 λam s2 h2=>?_) hs;erw[h2,it,fp,tn,J,H2,e,I2,T,ah,f2,W,[m0,w0],ae];subst e;have Z:∀{H':Hp},(∀b∈fp,H' b=U_)->∀b∈fp,AQ X ou H' b:=λhn b U=>[hn b U:(f2 b U).2];refine codeAny_forLoop_any (λn s'=>∃i σ' H',Inv X ou σ' H' s'/\tn i s'.heap/\(∀b∈fp,H' b=U_)/\W i n σ' H') ?_ m0 ⟨(0),σ,H2,I2,ah,λb U=>(f2 b U).1,w0⟩;rintro n s3 ⟨i,σ3,H3,I3,af,ag,w3⟩;rcases ae i n σ3 H3 w3 with⟨stop,qn⟩|⟨go,N,hN,step⟩
 ·refine Ua hp (thn (T.done X rfl rfl rfl hc i ou s3 σ3 H3 X.xe I3 (Z ag) af stop) λr s4 zq=>?_);erw[zq,hr,I4];subst hr;exact Ul ⟨σ3,H3,I4,qn⟩
 ·refine Ua hp (thn (T.item X rfl rfl rfl hc i ou s3 σ3 H3 X.xe I3 (Z ag) af go) λr s4 zq=>?_);erw[zq,u,hr,h4];subst hr;refine Ua hp (thn h4 λ_ s5 zq=>?_);erw[zq,x,H5,I5,r5,y5,ad,ak];have al:=I5.pinned (Z ak) (T.obj _ _ ad);refine Ua hp (thn (hg _ s5 σ3 H5 x u _ al r5 (step x H5 y5)) λ_ s6 zq=>?_);erw[zq,σ6,H6,I6,q6];refine Ua hp (thn (U _ s6 σ6 H6 _ I6 q6) λf s7 q7=>?_);have aa:∀{σ7:St}{H7:Hp},Inv X (ou++oo fp s5.heap) σ7 H7 s7->N σ7 H7->∃m,m<n/\∃i σ' H',Inv X ou σ' H' s7/\tn i s7.heap/\(∀b∈fp,H' b=U_)/\W i m σ' H':=λ{σ7 H7} I7 n7=>by
   erw[hN σ7 H7 n7,m',hm,w7];exists m',hm,i+1,σ7,H7,I7.unpinned,T.keep _ _ _ ad λb U o e=>(I7.pin (b,o) (uP _ (uP _ (JP U e)))).1,λb U=>?_,w7;erw[T.obj _ _ ad b U,o,e,d];exact(I7.pin (b,o) (uP _ (uP _ (JP U e)))).2.1
  cases f with
  |next=>erw[q7,σ7,H7,I7,n7];exact aa I7 n7
  |cont=>erw[q7,σ7,H7,I7,n7];exact aa I7 n7
  |brk=>erw[q7,σ7,H7,I7,q7];exact⟨σ7,H7,I7.unpinned,q7⟩
  |ret v=>erw[q7,x7,σ7,H7,I7,r7,q7];exact⟨x7,σ7,H7,I7.unpinned,r7,q7⟩
end
def kj {K:o0}{a:o6}{xs:oq V}{g:TG}{tb:TS}{D:mL}{σ:St}{H:Hp}(O:Nat->St->Hp->Prop)(h0:O 0 σ H)(hl:∀i σ H,i<=↑xs->O i σ H->SqL K H a xs)
  (hs:∀i x σ H,xs[i]? =u_ x->O i σ H->g x σ H λZ H2=>tb {D with nx:=O (i+1),ct:=O (i+1),bk:=D.nx} Z H2) (hd:∀σ H,O ↑xs σ H->D.nx σ H):
  ∃W:Nat->Nat->St->Hp->Prop,(∃m,W 0 m σ H)/\∀i m σ H,W i m σ H->
   ((Itl K a).stop i H/\D.nx σ H)∨((Itl K a).go i H/\∃N:St->Hp->Prop,(∀σ' H',N σ' H'->∃m',m'<m/\W (i+1) m' σ' H')/\∀x H',(Itl K a).yld i H x H'->g x σ H' λZ H2=>tb {D with nx:=N,ct:=N,bk:=D.nx} Z H2):=by
 exists λi m σ H=>m=↑xs-i/\i<=↑xs/\O i σ H,⟨↑xs,by simp,uY _,h0⟩
 rintro i m σ H ⟨rfl,hi,p⟩;have q:=hl i σ H hi p;by_cases U:i<↑xs
 ·refine .inr ⟨⟨xs,xs[i],q,by simp[U]⟩,O (i+1),λσ' H' p'=>⟨↑xs-(i+1),(),1,U,p'⟩,λx H' y=>?_⟩
  erw[y,e,y];subst e;exact hs i x σ _ (y xs q) p
 ·have e:i=↑xs:=by omega
  subst e;exact .inl [[xs:q:uA _]:hd σ H p]
def Z8 {K:o0}{a:o6}{xs:oq V}{g:TG}{tb:TS}{D:mL}{σ:St}{H:Hp}(O:Nat->St->Hp->Prop)(h0:O 0 σ H)(hl:∀i σ H,i<=↑xs->O i σ H->SqT K H a xs)
  (hs:∀i x σ H,xs[i]? =u_ x->O i σ H->g x σ H λZ H2=>tb {D with nx:=O (i+1),ct:=O (i+1),bk:=D.nx} Z H2) (hd:∀σ H,O ↑xs σ H->D.nx σ H):
  ∃W:Nat->Nat->St->Hp->Prop,(∃m,W 0 m σ H)/\∀i m σ H,W i m σ H->
   ((Itt K a).stop i H/\D.nx σ H)∨((Itt K a).go i H/\∃N:St->Hp->Prop,(∀σ' H',N σ' H'->∃m',m'<m/\W (i+1) m' σ' H')/\∀x H',(Itt K a).yld i H x H'->g x σ H' λZ H2=>tb {D with nx:=N,ct:=N,bk:=D.nx} Z H2):=by
 exists λi m σ H=>m=↑xs-i/\i<=↑xs/\O i σ H,⟨↑xs,by simp,uY _,h0⟩
 rintro i m σ H ⟨rfl,hi,p⟩;have q:=hl i σ H hi p;by_cases U:i<↑xs
 ·refine .inr ⟨⟨xs,xs[i],q,by simp[U]⟩,O (i+1),λσ' H' p'=>⟨↑xs-(i+1),(),1,U,p'⟩,λx H' y=>?_⟩
  erw[y,e,y];subst e;exact hs i x σ _ (y xs q) p
 ·have e:i=↑xs:=by omega
  subst e;exact .inl [[xs:q:uA _]:hd σ H p]
def Xt {lo:Int}{n:Nat}{g:TG}{tb:TS}{D:mL}{σ:St}{H:Hp}(O:Nat->St->Hp->Prop)(h0:O 0 σ H)
  (hs:∀i σ H,i<n->O i σ H->g (.int (lo+i)) σ H λZ H2=>tb {D with nx:=O (i+1),ct:=O (i+1),bk:=D.nx} Z H2) (hd:∀σ H,O n σ H->D.nx σ H):
  ∃W:Nat->Nat->St->Hp->Prop,(∃m,W 0 m σ H)/\∀i m σ H,W i m σ H->
   ((Itr lo n).stop i H/\D.nx σ H)∨((Itr lo n).go i H/\∃N:St->Hp->Prop,(∀σ' H',N σ' H'->∃m',m'<m/\W (i+1) m' σ' H')/\∀x H',(Itr lo n).yld i H x H'->g x σ H' λZ H2=>tb {D with nx:=N,ct:=N,bk:=D.nx} Z H2):=by
 exists λi m σ H=>m=n-i/\i<=n/\O i σ H,⟨n,by simp,uY _,h0⟩
 rintro i m σ H ⟨rfl,hi,p⟩;by_cases U:i<n
 ·refine .inr ⟨U,O (i+1),λσ' H' p'=>⟨n-(i+1),(),1,U,p'⟩,λx H' y=>?_⟩
  erw[y,e,y];subst e y;exact hs i σ _ U p
 ·have e:i=n:=by omega
  subst e;exact .inl [uA _:hd σ H p]
noncomputable abbrev R2:=V->V->Hp->VK->Prop
nonrec def OpR (X:Cx)(f:o7->o7->Sem o7)(r:R2):Prop:=
 ∀(ou:oq (o6×Obj)) (s:o9) (σ:St) (H:Hp) (x y:V) (v u:o7) (Q:VK),#[I]->ik x v->ik y u->r x y H Q->
  V2 #[X,X] X.A (f v u) (EP X ou σ Q) X.xe s
nonrec def UnR (X:Cx)(f:o7->Sem o7)(r:V->Hp->VK->Prop):Prop:=
 ∀(ou:oq (o6×Obj)) (s:o9) (σ:St) (H:Hp) (x:V) (v:o7) (Q:VK),#[I]->ik x v->r x H Q->
  V2 #[X,X] X.A (f v) (EP X ou σ Q) X.xe s
nonrec def jg (X:Cx)(f:o7)(r:oq V->Hp->VK->Prop):Prop:=
 ∀(ou:oq (o6×Obj)) (s:o9) (σ:St) (H:Hp) (xs:oq V) (us:oq o7) (Q:VK),#[I]->iq xs us->r xs H Q->
  V2 #[X,X] X.A (call f us) (EP X ou σ Q) X.xe s
nonrec def Aed (X:Cx)(r:V->Hp->(Bool->Hp->Prop)->Prop):Prop:=
 ∀(ou:oq (o6×Obj)) (s:o9) (σ:St) (H:Hp) (x:V) (v:o7) (Q:Bool->Hp->Prop),#[I]->ik x v->r x H Q->
  V2 #[X,X] X.A (truthy v) (TP X ou σ Q) X.xe s
nonrec def tOp (r:R2)(ta tb:TE):TE:=λσ H Q=>ta σ H λx H1=>tb σ H1 λy H2=>r x y H2 Q
nonrec def tUn (r:V->Hp->VK->Prop)(ta:TE):TE:=λσ H Q=>ta σ H λx H1=>r x H1 Q
inductive rI (C:Int->Int->Prop)(g:Int->Int->V)(x:V)(y:V)(H:Hp)(Q:VK):Prop
 |mk (i:_)(j:_)(_:x= .int i)(_:y= .int j)(_:C i j)(_:Q (g i j) H)
inductive rI0 (g:Int->Int->V)(x:V)(y:V)(H:Hp)(Q:VK):Prop
 |mk (i:_)(j:_)(_:x= .int i)(_:y= .int j)(_:Q (g i j) H)
inductive rU (g:Int->V)(x:V)(H:Hp)(Q:VK):Prop
 |mk (i:_)(_:x= .int i)(_:Q (g i) H)
section
variable {X:Cx}{a b c:Expr}{ta tb tc:TE}{pos:Pos}
def Ac5 (ha:PE X a ta)(O:PE X b tb){ou:oq (o6×Obj)}{s:o9}{σ:St}{H:Hp}{R:V->V->Hp->Prop}(I:#[I])
  (h:ta σ H λx H1=>tb σ H1 λy H2=>R x y H2) {Q:o7->o9->Prop}{f:o7->o7->Sem o7}
  (U:∀v u s2 x y H2,Inv X ou σ H2 s2->ik x v->ik y u->R x y H2->V2 #[X,X] X.A (f v u) Q X.xe s2):
  V2 #[X,X] X.A (eval a X.env) (λv Z=>V2 #[X,X] X.A (eval b X.env) (λu s₂=>V2 #[X,X] X.A (f v u) Q X.xe s₂) X.xe Z) X.xe s:=by
 refine thn (ha ou s σ H _ I h) λv s1 zq=>?_;erw[zq,x,H1,I1,r1,q1];refine thn (O ou s1 σ H1 _ I1 q1) λu s2 zq=>?_;erw[zq,y,H2,I2,r2,q2];exact U v u s2 x y H2 I2 r1 r2 q2
def QC {O:GK}{r:R2}(U:OpR X (Vy O) r)(ha:PE X a ta)(Z:PE X b tb):PE X (.BinOp a O b pos) (tOp r ta tb):=by
 exists 2,Q,I,h;exact wpAny_BinOp (Ac5 ha Z I h λv u s2 x y H2 I2 rx ry q=>U ou s2 σ H2 x y v u Q I2 rx ry q)
def Aay {O:UnaryOp}{r:V->Hp->VK->Prop}(U:UnR X (unaryOp O) r)(ha:PE X a ta):PE X (.UnaryOp O a pos) (tUn r ta):=by
 exists 2,Q,I,h;exact UnaryOp_ (thn (ha ou s σ H _ I h) λv s1 ⟨x,H1,Z,r1,q1⟩=>U ou s1 σ H1 x v Q Z r1 q1)
def opI {f:o7->o7->Sem o7}{C:Int->Int->Prop}{g:Int->Int->Int}
  (rule:∀(i j:Int) (t u:Tok) (s:o9) (Q:o7->o9->Prop) (E:o7->o9->Prop),C i j->Q (.int (g i j) s.toks) {s with toks:=s.toks+1}->V2 #[X,X] X.A (f (.int i t) (.int j u)) Q E s):
  OpR X f (rI C λi j=> .int (g i j)):=by
 exists 2,x,y,v,u,Q,I,O,U,h;erw[h,i,j,rfl,rfl,Z,q];erw[O,t,rfl];erw[U,t',rfl];exact rule i j t t' s _ _ Z ⟨.int (g i j),H,I.tok _,⟨0⟩,q⟩
def Adx {f:o7->o7->Sem o7}{g:Int->Int->Int}
  (rule:∀(i j:Int) (t u:Tok) (s:o9) (Q:o7->o9->Prop) (E:o7->o9->Prop),Q (.int (g i j) s.toks) {s with toks:=s.toks+1}->V2 #[X,X] X.A (f (.int i t) (.int j u)) Q E s):
  OpR X f (rI0 λi j=> .int (g i j)):=by
 exists 2,x,y,v,u,Q,I,O,U,h;erw[h,i,j,rfl,rfl,q];erw[O,t,rfl];erw[U,t',rfl];exact rule i j t t' s _ _ ⟨.int (g i j),H,I.tok _,⟨0⟩,q⟩
def Ab2 {f:o7->o7->Sem o7}{g:Int->Int->Bool}
  (rule:∀(i j:Int) (t u:Tok) (s:o9) (Q:o7->o9->Prop) (E:o7->o9->Prop),Q (.bool (g i j)) s->V2 #[X,X] X.A (f (.int i t) (.int j u)) Q E s):
  OpR X f (rI0 λi j=> .bl (g i j)):=by
 exists 2,x,y,v,u,Q,I,O,U,h;erw[h,i,j,rfl,rfl,q];erw[O,t,rfl];erw[U,t',rfl];exact rule i j t t' s _ _ ⟨.bl (g i j),H,I,1,q⟩
nonrec def Aeh (i j:Int):Prop:=0<j/\j<1073741824
nonrec def Aeg (i j:Int):Prop:=0<=j/\j<=1000000/\i.natAbs<2^64
nonrec def Ab8 (i j:Int):Prop:=(-(2^64)<i/\i<2^64)∨(-(2^64)<j/\j<2^64)
def Ab8.ok {i j:Int}(h:Ab8 i j):IntMulOk i j:=by
 rcases h with⟨h1,h2⟩|⟨h1,h2⟩
 ·exact .of_left (rX h1 h2)
 ·exact .of_right (rX h1 h2)
def Yy:OpR X (Vy .Add) (rI0 λi j=> .int (i+j)):=Adx λ_ _ _ _ _ _ _ q=>add_int q
def Mh:OpR X (Vy .Sub) (rI0 λi j=> .int (i-j)):=Adx λ_ _ _ _ _ _ _ q=>sub_int q
def oB:OpR X (Vy .Mult) (rI Ab8 λi j=> .int (i*j)):=opI λ_ _ _ _ _ _ _ O q=>mul_int q O.ok
def Oe:OpR X (Vy .FloorDiv) (rI Aeh λi j=> .int (i/j)):=opI λi j _ _ _ _ _ O q=>by
 have h1:(0:Int)<j:=O.1;have h2:j<1073741824:=O.2;exact floordiv_int () (by rwa[Int.fdiv_eq_ediv_of_nonneg i ()]) (.inl (PyProof.noPylong_small ()))
def oC:OpR X (Vy .Mod) (rI (λ_ j=>0<j) λi j=> .int (i%j)):=opI λi j _ _ _ _ _ O q=>by
 have h1:(0:Int)<j:=O;exact mod_int' () (by rwa[Int.fmod_eq_emod_of_nonneg i ()])
def AaG:OpR X (Vy .Pow) (rI Aeg λi j=> .int (i^j.toNat)):=opI λ_ _ _ _ _ _ _ O q=>pow_int_small O.1 O.2.1 O.2.2 q
def unI {f:o7->Sem o7}{g:Int->Int}
  (rule:∀(i:Int) (t:Tok) (s:o9) (Q:o7->o9->Prop) (E:o7->o9->Prop),Q (.int (g i) s.toks) {s with toks:=s.toks+1}->V2 #[X,X] X.A (f (.int i t)) Q E s):
  UnR X f (rU λi=> .int (g i)):=by
 exists 2,x,v,Q,I,O,h;erw[h,i,rfl,q];erw[O,t,rfl];exact rule i t s _ _ ⟨.int (g i),H,I.tok _,⟨0⟩,q⟩
def LR:UnR X (unaryOp .USub) (rU λi=> .int (-i)):=unI λ_ _ _ _ _ q=>neg_int q
nonrec def Adp:V->V->Bool
 | .non,.non=>v_| .non,.int _=>v_| .int _,.non=>v_| .non,.bl _=>v_| .bl _,.non=>v_| .non,.str _=>v_| .str _,.non=>v_
 | .int _,.int _=>v_| .bl _,.bl _=>v_| .str _,.str _=>v_| .byt _,.byt _=>v_
 | .int _,.str _=>v_| .str _,.int _=>v_| .bl _,.str _=>v_| .str _,.bl _=>v_
 |_,_=>V1
nonrec def rEq:R2:=λx y H Q=>Adp x y=v_/\Q (.bl (decide (x=y))) H
nonrec def rNe:R2:=λx y H Q=>Adp x y=v_/\Q (.bl (!decide (x=y))) H
def Ig {i j:Int}:decide (V.int i=V.int j)=(i==j):=by
 rw[vO];simp
def ML {i j:Bool}:decide (V.bl i=V.bl j)=(i==j):=by
 rw[vO];simp
def Ie {i j:Str}:decide (V.str i=V.str j)=(i==j):=by
 rw[vO];simp
def Ih {i j:Array UInt8}:decide (V.byt i=V.byt j)=(i.toList==j.toList):=by
 rw[vO];cases i;cases j;simp
variable {Q:VK}
def Qi {k O:Bool}(I:#[I])(q:Q (.bl k) H)(e:k=O):EP X ou σ Q (.bool O) s:=by
 subst e;exact⟨.bl k,H,I,1,q⟩
def QW:OpR X (Vc .Eq) rEq:=by
 exists 2,x,y,v,u,Q,I,Z,O,h;erw[h,U,q];cases x with
 |non=>
  cases Z;cases y with
  |non=>cases O;exact PySem.EqNone.eq_none_none (Qi I q (by simp))
  |bl j=>cases O;exact PySem.EqNone.eq_none_bool (Qi I q (by simp))
  |int j=>erw[O,t',rfl];exact PySem.EqNone.eq_none_int (Qi I q (by simp))
  |str j=>erw[O,t',rfl];exact PySem.EqNone.eq_none_str (Qi I q (by simp))
  |_=>exact A8 (show V1=v_ from U) ub
 |bl i=>
  cases Z;cases y with
  |non=>cases O;exact PySem.EqNone.eq_bool_none (Qi I q (by simp))
  |bl j=>cases O;exact eq_bool (Qi I q ML)
  |str j=>erw[O,t',rfl];exact PySem.EqMixed.eq_bool_str (Qi I q (by simp))
  |_=>exact A8 (show V1=v_ from U) ub
 |int i=>
  erw[Z,t,rfl];cases y with
  |non=>cases O;exact PySem.EqNone.eq_int_none (Qi I q (by simp))
  |int j=>erw[O,t',rfl];exact eq_int (Qi I q Ig)
  |str j=>erw[O,t',rfl];exact PySem.EqMixed.eq_int_str (Qi I q (by simp))
  |_=>exact A8 (show V1=v_ from U) ub
 |str i=>
  erw[Z,t,rfl];cases y with
  |non=>cases O;exact PySem.EqNone.eq_str_none (Qi I q (by simp))
  |bl j=>cases O;exact PySem.EqMixed.eq_str_bool (Qi I q (by simp))
  |int j=>erw[O,t',rfl];exact PySem.EqMixed.eq_str_int (Qi I q (by simp))
  |str j=>erw[O,t',rfl];exact eq_str (Qi I q Ie)
  |_=>exact A8 (show V1=v_ from U) ub
 |byt i=>
  erw[Z,t,rfl];cases y with
  |byt j=>erw[O,t',rfl];exact PySem.W.eq_bytes (Qi I q Ih)
  |_=>exact A8 (show V1=v_ from U) ub
 |_=>cases y<;>exact A8 (show V1=v_ from U) ub
def DU:OpR X (Vc .NotEq) rNe:=by
 exists 2,x,y,v,u,Q,I,Z,O,h;erw[h,U,q];cases x with
 |non=>
  cases Z;cases y with
  |non=>cases O;exact PySem.EqNone.ne_none_none (Qi I q (by simp))
  |bl j=>cases O;exact PySem.EqNone.ne_none_bool (Qi I q (by simp))
  |int j=>erw[O,t',rfl];exact PySem.EqNone.ne_none_int (Qi I q (by simp))
  |str j=>erw[O,t',rfl];exact PySem.EqNone.ne_none_str (Qi I q (by simp))
  |_=>exact A8 (show V1=v_ from U) ub
 |bl i=>
  cases Z;cases y with
  |non=>cases O;exact PySem.EqNone.ne_bool_none (Qi I q (by simp))
  |bl j=>cases O;exact ne_bool (Qi I q (A9 not ML))
  |str j=>erw[O,t',rfl];exact PySem.EqMixed.ne_bool_str (Qi I q (by simp))
  |_=>exact A8 (show V1=v_ from U) ub
 |int i=>
  erw[Z,t,rfl];cases y with
  |non=>cases O;exact PySem.EqNone.ne_int_none (Qi I q (by simp))
  |int j=>erw[O,t',rfl];exact ne_int (Qi I q (A9 not Ig))
  |str j=>erw[O,t',rfl];exact PySem.EqMixed.ne_int_str (Qi I q (by simp))
  |_=>exact A8 (show V1=v_ from U) ub
 |str i=>
  erw[Z,t,rfl];cases y with
  |non=>cases O;exact PySem.EqNone.ne_str_none (Qi I q (by simp))
  |bl j=>cases O;exact PySem.EqMixed.ne_str_bool (Qi I q (by simp))
  |int j=>erw[O,t',rfl];exact PySem.EqMixed.ne_str_int (Qi I q (by simp))
  |str j=>erw[O,t',rfl];exact ne_str (Qi I q (A9 not Ie))
  |_=>exact A8 (show V1=v_ from U) ub
 |byt i=>
  erw[Z,t,rfl];cases y with
  |byt j=>erw[O,t',rfl];exact PySem.W.ne_bytes (Qi I q (A9 not Ih))
  |_=>exact A8 (show V1=v_ from U) ub
 |_=>cases y<;>exact A8 (show V1=v_ from U) ub
def AcE:OpR X (Vc .Lt) (rI0 λi j=> .bl (decide (i<j))):=Ab2 λ_ _ _ _ _ _ _ q=>lt_int q
def DW:OpR X (Vc .LtE) (rI0 λi j=> .bl (decide (i<=j))):=Ab2 λ_ _ _ _ _ _ _ q=>le_int q
def oE:OpR X (Vc .Gt) (rI0 λi j=> .bl (decide (j<i))):=Ab2 λ_ _ _ _ _ _ _ q=>gt_int q
def AcF:OpR X (Vc .GtE) (rI0 λi j=> .bl (decide (j<=i))):=Ab2 λ_ _ _ _ _ _ _ q=>ge_int q
def DV:OpR X (Vc .Lt) (λx y H Q=>∃i j,x= .str i/\y= .str j/\Q (.bl (decide (i.cps.toList<j.cps.toList))) H):=by
 exists 2,x,y,v,u,Q,I,O,U,h;erw[h,i,j,rfl,rfl,q];erw[O,t,rfl];erw[U,t',rfl];exact lt_str (Qi I q rfl)
def DX:OpR X (Vc .In) (λx y H Q=>∃i j,x= .str i/\y= .str j/\Q (.bl (!(GH j i 0 ↑j 1).isEmpty)) H):=by
 exists 2,x,y,v,u,Q,I,O,U,h;erw[h,i,j,rfl,rfl,q];erw[O,t,rfl];erw[U,t',rfl];exact in_str (Qi I q rfl)
def yl:OpR X (Vc .Is) (λx y H Q=>y= .non/\Q (.bl (decide (x= .non))) H):=by
 exists 2,x,y,v,u,Q,I,O,U,h;erw[h,rfl,q];cases U;refine is_none_gen (Qi I q ?_);cases x<;>first
  |(cases O;rfl)
  |(erw[O,t,rfl];rfl)
def xp:OpR X (Vc .IsNot) (λx y H Q=>y= .non/\Q (.bl (!decide (x= .non))) H):=by
 exists 2,x,y,v,u,Q,I,O,U,h;erw[h,rfl,q];cases U;refine isnot_none_gen (Qi I q ?_);cases x<;>first
  |(cases O;rfl)
  |(erw[O,t,rfl];rfl)
def qx (b:Expr){O:Gk}(h:O≠ .In:=by decide)(h2:O≠ .NotIn:=by decide):GL O b=false:=by
 have U:(O==CmpOp.In)=false:=by cases O<;>first|rfl|exact A8 rfl h
 have e2:(O==CmpOp.NotIn)=false:=by cases O<;>first|rfl|exact A8 rfl h2
 cases b<;>simp[GL,U,e2]
def Qg {O:Gk}{r:R2}(U:OpR X (Vc O) r)(ha:PE X a ta)(Z:PE X b tb)(hm:GL O b=V1):PE X (.Compare a [O] [b] pos) (tOp r ta tb):=by
 exists 2,Q,I,h;exact wpAny_Compare1 (Ac5 ha Z I h λv u s2 x y H2 I2 rx ry q=>U ou s2 σ H2 x y v u Q I2 rx ry q) hm
inductive AbM (Q:(Bool->Hp->Prop))(x:V)(H':Hp):Prop
 |mk (k:_)(_:x= .bl k)(_:Q k H')
nonrec def Sn (t:TE):TT:=λσ H Q=>t σ H λx H'=>AbM Q x H'
def qr {O:Gk}{r:R2}(U:OpR X (Vc O) r)(ha:PE X a ta)(Z:PE X b tb)(hm:GL O b=V1):PT X (.Compare a [O] [b] pos) (Sn (tOp r ta tb)):=by
 exists 2,Q,I,h;refine rh (thn (ha ou s σ H _ I h) λv s1 ⟨x,H1,I1,r1,q1⟩=>thn (Z ou s1 σ H1 _ I1 q1) λu s2 ⟨y,H2,I2,r2,q2⟩=>
  thn (U ou s2 σ H2 x y v u _ I2 r1 r2 q2) λc s3 ⟨z,H3,I3,r3,k,e,q3⟩=>?_) hm
 subst e;cases r3;exact vv [H3:I3:q3]
nonrec def SK (r r':R2)(ta tb tc:TE):TE:=λσ H Q=>ta σ H λx H1=>tb σ H1 λy H2=>r x y H2 λz H3=>∃k,z= .bl k/\
 (if k=v_ then tc σ H3 λw' H4=>r' y w' H4 Q else Q (.bl V1) H3)
def Bj {U O:Gk}{r r':R2}(ho:OpR X (Vc U) r)(Z:OpR X (Vc O) r')(ha:PE X a ta)(hb:PE X b tb)(hc:PE X c tc)
  (hm:lastMarks [U,O] [b,c]=V1):PT X (.Compare a [U,O] [b,c] pos) (Sn (SK r r' ta tb tc)):=by
 exists 2,Q,I,h;refine isTrue_chain (thn (ha ou s σ H _ I h) λv s1 ⟨x,H1,I1,r1,q1⟩=>test_link (thn (hb ou s1 σ H1 _ I1 q1) λu s2 ⟨y,H2,I2,r2,q2⟩=>
  thn (ho ou s2 σ H2 x y v u _ I2 r1 r2 q2) λd s3 ⟨z,H3,I3,r3,k,e,q3⟩=>?_)) hm
 subst e;cases r3;refine vv ?_;cases k with
 |false=>
  erw[q3,k',e',q'];cases e';exact ite_ff [H3:I3:q']
 |true=>
  refine ite_tt (test_last (thn (hc ou s3 σ H3 _ I3 q3) λw' s4 ⟨z',H4,I4,r4,q4⟩=>thn (Z ou s4 σ H4 y z' u w' _ I4 r2 r4 q4) λd' s5 zq=>?_));erw[zq,z2,H5,I5,r5,k2,e2,q5];subst e2;cases r5;exact vv [H5:I5:q5]
nonrec def AdC (K:o0)(x:V)(H:Hp)(k:Bool):Prop:=
 match x with
 | .non=>k=V1
 | .bl b=>k=b
 | .int i=>k=(i !=0)
 | .str y=>↑y<=V5/\k=((↑y:Int) !=0)
 | .byt y=>y.size<=V5/\k=((y.size:Int) !=0)
 | .ref p=>(∃xs,SqL K H p xs/\k= !xs.isEmpty)∨(∃xs,SqT K H p xs/\k= !xs.isEmpty)∨∃kvs,H p=u_ (.dK kvs)/\k= !kvs.isEmpty
 |_=>False
def CA {κ:Type}{kvs:oq (κ×V)}{vs:oq (κ×o7)}(r:KV kvs vs):(!vs.isEmpty)= !kvs.isEmpty:=by
 cases r<;>rfl
variable {its:oq o7}
def WA (r:iq xs its):(!its.toArray.isEmpty)= !xs.isEmpty:=by
 cases r<;>simp
def Zf:(V5:Nat)<2^63:=by rw[uE];decide
def Sh:Aed X (λx H Q=>∃k,AdC X.K x H k/\Q k H):=by
 exists 2,x,v,Q,I,Z,h;erw[h,k,e,q];have hl:=Zf;have hs:V5=16777216:=uE;cases x with
 |non=>
  cases Z;have O:k=false:=e;subst O;exact truthy_none [H:I:q]
 |bl b=>
  cases Z;have O:k=b:=e;subst O;exact vv [H:I:q]
 |int i=>
  erw[Z,t,rfl];have O:k=(i !=0):=e;subst O;exact PySem.P.truthy_int [H:I:q]
 |str y=>
  erw[Z,t,rfl];obtain⟨hy,O⟩:↑y<=V5/\k=((↑y:Int) !=0):=e;subst O;exact PySem.P.truthy_str () [H:I.tok _:q]
 |byt y=>
  erw[Z,t,rfl];obtain⟨hy,O⟩:y.size<=V5/\k=((y.size:Int) !=0):=e;subst O;exact PySem.W.truthy_bytes () [H:I.tok _:q]
 |ref p=>
  cases Z;have O:(∃xs,SqL X.K H p xs/\k= !xs.isEmpty)∨(∃xs,SqT X.K H p xs/\k= !xs.isEmpty)∨∃kvs,H p=u_ (.dK kvs)/\k= !kvs.isEmpty:=e;rcases O with⟨xs,hx,O⟩|⟨xs,hx,O⟩|⟨kvs,hx,O⟩
  ·subst O;erw[I.list hx,its,r,pl,hz];have U:=↑r;exact wpAny_truthy_list pl.isList (by simp![ur];omega) ⟨H,I.tok _,by rwa[WA r]⟩
  ·subst O;erw[I.tuple hx,its,r,pl,hz];have U:=↑r;exact truthy_tuple pl (by simp![ur];omega) ⟨H,I.tok _,by rwa[WA r]⟩
  ·subst O;obtain⟨hz,hS,vs,r,m⟩:↑kvs<=V5/\(p==Vn)=V1/\∃vs,KV kvs vs/\s.heap.DictOf (Ql X.prog X.w) p vs:=I.hok p _ hx;have U:↑kvs=↑vs:=Paired.length r;exact wpAny_truthy_dict hS m () ⟨H,I.tok _,by rwa[CA r]⟩
 |_=>exact(show False from e).elim
def Bi (ha:PE X a ta)(U:∀O,isTrue a X.env O=(do let v<-O;G6 a.pos;VR [v] (truthy v))):
  PT X a (λσ H Q=>ta σ H λx H'=>∃k,AdC X.K x H' k/\Q k H'):=by
 exists 2,Q,I,h;exact Rv (thn (ha ou s σ H _ I h) λv s1 ⟨x,H1,Z,r1,q1⟩=>Sh ou s1 σ H1 x v Q Z r1 q1) (U _)
def JO:OpR X (Vy .Add) (λx y H Q=>∃i j,x= .str i/\y= .str j/\↑i+↑j<=V5/\Q (.str (i++j)) H):=by
 exists 2,x,y,v,u,Q,I,O,U,h;erw[h,i,j,rfl,rfl,hz,q];erw[O,t,rfl];erw[U,t',rfl];exact vm (n:=1) I.tk (add_str (λt' tk htk=>⟨.str (i++j),H,I.tok _,⟨0⟩,q⟩) hz)
def jZ (r:iq [x] us):∃u,us= [u]/\ik x u:=by
 cases r with
 |cons O U=>cases U;exact[0:O]
def IJ (r:iq [x,y] us):∃u O,us= [u,O]/\ik x u/\ik y O:=by
 cases r with
 |cons U Z=>
  cases Z with
  |cons r3 r4=>cases r4;exact⟨_,0,U,r3⟩
def BU:jg X (.builtin "abs") (λxs H Q=>∃i,xs= [.int i]/\Q (.int (if i<0 then-i else i)) H):=by
 exists 2,xs,us,Q,I,r,h;erw[h,i,rfl,q];erw[jZ r,u,rfl,t,rfl];exact vm (n:=1) I.tk (call_abs_int λu tk htk=>⟨.int (if i<0 then-i else i),H,I.tok _,⟨0⟩,q⟩)
def sA:jg X (.type "int") (λxs H Q=>(∃i,xs= [.int i]/\Q (.int i) H)∨∃k,xs= [.bl k]/\Q (.int (if k then 1 else 0)) H):=by
 exists 2,xs,us,Q,I,r,h;rcases h with⟨i,rfl,q⟩|⟨k,rfl,q⟩
 ·erw[jZ r,u,rfl,t,rfl];exact call_int_int ⟨.int i,H,I,⟨0⟩,q⟩
 ·erw[jZ r,u,rfl,O];cases O;exact call_int_bool ⟨.int (if k then 1 else 0),H,I.tok _,⟨0⟩,q⟩
def jd:jg X (.type "str") (λxs H Q=>∃i,xs= [.int i]/\i.natAbs.log2<1920/\Q (.str (Ve i)) H):=by
 exists 2,xs,us,Q,I,r,h;erw[h,i,rfl,hz,q];erw[jZ r,u,rfl,t,rfl];exact PySem.P.str_of_int hz ⟨.str _,H,I.tok _,⟨0⟩,q⟩
def LE:jg X (.builtin "ord") (λxs H Q=>∃x,xs= [.str x]/\↑x=1/\Q (.int (x.cps.getD 0 0:Nat)) H):=by
 exists 2,xs,us,Q,I,r,h;erw[h,x,rfl,hz,q];erw[jZ r,u,rfl,t,rfl];exact ord_of_one hz ⟨.int _,H,I.tok _,⟨0⟩,q⟩
nonrec def Aef (K:o0)(x:V)(H:Hp)(n:Nat):Prop:=
 match x with
 | .str y=>↑y<=V5/\n=↑y
 | .byt y=>y.size<=V5/\n=y.size
 | .ref p=>(∃xs,SqL K H p xs/\n=↑xs)∨∃xs,SqT K H p xs/\n=↑xs
 |_=>False
def kG:jg X (.builtin "len") (λxs H Q=>∃x n,xs= [x]/\Aef X.K x H n/\Q (.int n) H):=by
 exists 2,xs,us,Q,I,r,h;erw[h,x,n,rfl,e,q];erw[jZ r,u,rfl,Z];have hl:=Zf;have hs:V5=16777216:=uE;cases x with
 |str y=>
  erw[Z,t,rfl];obtain⟨hy,U⟩:↑y<=V5/\n=↑y:=e;subst U;exact len_str () ⟨.int _,H,I.tok _,⟨0⟩,q⟩
 |byt y=>
  erw[Z,t,rfl];obtain⟨hy,U⟩:y.size<=V5/\n=y.size:=e;subst U;exact PySem.W.len_bytes () ⟨.int _,H,I.tok _,⟨0⟩,q⟩
 |ref p=>
  cases Z;have U:(∃xs,SqL X.K H p xs/\n=↑xs)∨∃xs,SqT X.K H p xs/\n=↑xs:=e;rcases U with⟨xs,hx,U⟩|⟨xs,hx,U⟩
  ·subst U;erw[I.list hx,its,r',pl,hz];have O:=↑r';exact FG pl.isList (by simp![ur];omega) ⟨.int ↑xs,H,I.tok _,⟨_,by simp![ur];rw[O]⟩,q⟩
  ·subst U;erw[I.tuple hx,its,r',pl,hz];have O:=↑r';exact len_tuple pl (by simp![ur];omega) ⟨.int ↑xs,H,I.tok _,⟨_,by simp![ur];rw[O]⟩,q⟩
 |_=>exact(show False from e).elim
end
structure PQ (h:og)(x dx C:o6)(mA:Str->ot o7):Prop where
 obj:h.get? x=u_ (PySem.W.instObj C dx)
 ns:h.Ns1 dx mA
 ne:dx≠x
variable {dx:o6}
def Er {mA:Str->ot o7}(n:h.Ns1 dx mA):∃od,h.get? dx=u_ od/\∀name,PySem.W.lookIn name od=u_ (mA name):=by
 erw[n,o,es,ep,U,hd,Z,_,hm];exists o,U,λname=>?_;have e:=hm name;unfold nsFind findBy at e;rw[<-Array.find?_toList] at e;unfold PySem.W.lookIn;rw[hd];dsimp only;split
 ·rename_i y q
  rw[q] at e;exact A9 u_ e
 ·rename_i q
  rw[q] at e;have a:es.toList.any (·.refKey)=false:=by
   rw[Tu];intro y hy;erw[Z y (Array.mem_toList_iff.mp hy),z,t,O];simp[TN,O]
  have a':¬es.toList.any (·.refKey)=true:=by rw[a];exact ub
  rw[A4 a'];exact A9 u_ e
variable {C:o6}
def PQ.look {x:o6}{mA:Str->ot o7}(I:PQ h x dx C mA):∃od,PySem.W.InstAt h x (PySem.W.instObj C dx) C (u_ od)/\∀name,PySem.W.lookIn name od=u_ (mA name):=
 let⟨od,ho,hl⟩:=Er I.ns
 [od:⟨I.obj,1,1,ho⟩:hl]
section
variable {prog:oh}{w:oj}{A:om}{E:o7->o9->Prop}{s:o9}{K:o0}{x dx C f:o6}{mA:Str->ot o7}{name:Str}{v:o7}
def Pd {O:Bool}{Q:o7->o9->Prop}(X:K.In s.heap)(I:PQ s.heap x dx C mA)(Z:PySem.W.plainGet K C name=v_)(hh:PySem.W.hasDictIn K C=v_)
  (ha:PySem.W.findIn K (.ref C) name=u_ U_) (hv:mA name=u_ v) (U:PySem.W.handedIn v=v_) (h:Q v {s with toks:=s.toks+1}):
  V2 #[w,w] A (tV (.ref x) name O) Q E s:=by
 erw[I.look,od,J,hl];exact PySem.W.get_value X J (PySem.W.plainGet_of Z).1 (PySem.W.findObj_own hh ha rfl (by rw[hl,hv])) U h
def Ls {pl:Sem Bool}{Q:o7×oq o7->o9->Prop}(X:K.In s.heap)(I:PQ s.heap x dx C mA)(O:PySem.W.plainGet K C name=v_)
  (U:PySem.W.findIn K (.ref C) name=u_ (u_ (.ref f))) (Z:PySem.W.isFn K (.ref f)=v_) (hv:mA name=U_) (h:Q (.ref f,[.ref x]) s):
  V2 #[w,w] A (Gx (.ref x) name pl) Q E s:=by
 erw[I.look,od,J,hl];exact PySem.W.method_fn X J (PySem.W.plainGet_of O).1 (PySem.W.plainGet_of O).2 U (beq_iff_eq.mp Z) (by show(PySem.W.lookIn name od).map (·.isSome)=u_ V1;rw[hl,hv];rfl) h
def NH {ns:oq Str}{Q:Unit->o9->Prop}(X:K.In s.heap)(I:PQ s.heap x dx C mA)
  (hs:PySem.W.findIn K (.ref C) "__setattr__"=u_ (u_ (.builtin "object.__setattr__"))) (hp:PySem.W.plainOver K C=v_) (ht:PySem.W.takerIn K C name=u_ U_) (hh:PySem.W.hasDictIn K C=v_)
  (hw:PySem.Within mA ns) (hsz:↑ns<=V5)
  (h:∀h',PQ h' x dx C (λy=>if y=name then u_ v else mA y)->VF dx s.heap h'->Q V_ {s with heap:=h',toks:=s.toks+2}):
  V2 #[w,w] A (setAttr (.ref x) name v) Q E s:=by
 erw[I.look,od,J,hl];refine PySem.W.set_plain X J hs (PySem.W.osa_open (s:={s with toks:=s.toks+1}) (r:=U_) X J hp ht λb=>?_)
 erw[PySem.W.any_some hh,cd,hc,Z];have hx:s.heap.get? x=u_ ⟨.ref C,u_ dx,.plain,#[]⟩:=I.obj;refine A7 (uF (A7 (A7 (wpAny_loadPart hx (A7 (PySem.W.Looks.here (s:={s with toks:=s.toks+1}) (PySem.W.looks_clsIn X hc) ?_))))))
 rw[Z];refine uF (a:=u_ dx) (A7 (uF (A7 ?_)));refine wpAny_nsSet1 (s:={s with toks:=s.toks+1}) I.ns λh' O U=>?_
 erw[O.count (PySem.Within.cons name v hw),oD,ae,af,aa,ac,ad];refine A7 (wpAny_lookBehind aa (by rw[ac];exact pastItsLine_dict (vg ad (by rw[uB];omega))) ?_)
 exact uF (h _ [(U.2 _ (vX I.ne)).trans I.obj:O:I.ne] U)
def Li {R:Ge->o9->Prop}{vs:oq o7}{kw:oq (Str×o7)}(X:K.In s.heap)(hm:PySem.W.makesIn K C=v_)
  (hi:PySem.W.findIn K (.ref C) "__init__"=u_ (u_ (.ref f))) (O:PySem.W.typeIn K (.ref f)=u_ (.type "function"))
  (h:VD #[w,w] (A.under (.builtin "type.__call__" [.ref C::vs:kw])) (.call (.ref f) [.ref (#[0,s]+1)::vs:kw]) (PySem.W.InitBack (#[0,s]+1) R)
   {s with heap:=(s.heap.push PySem.W.emptyDict).push (PySem.W.instObj C #[0,s])}):
  VD #[w,w] A (.call (.ref C) [vs:kw]) R s:=by
 erw[s,U,g,d,t,os];exact PySem.W.make_core (PySem.W.makes_of X hm) (PySem.W.looks_findIn X hi) (λself=>PySem.W.bind_fn X self O) (.inl rfl) h
end
nonrec def iE (f:Str)(v:V):oq (Str×V)->oq (Str×V)
 | []=> [(f,v)]
 |(g,x)::r=>if g=f then(g,v)::r else(g,x)::iE f v r
def qI (f g:Str)(v:V):∀fs:oq (Str×V),(iE f v fs).lookup g=if g=f then u_ v else fs.lookup g
 | []=>by
  show Vq g [(f,v)]=_;by_cases h:g=f
  ·have O:(g==f)=true:=beq_iff_eq.mpr h;simp![Vq,O,A6 h]
  ·have O:(g==f)=false:=beq_eq_false_iff_ne.mpr h;simp![Vq,O,A4 h]
 |(k,x)::r=>by
  have Z:=qI f g v r;rw[show iE f v ((k,x)::r)=(if k=f then(k,v)::r else(k,x)::iE f v r) from rfl]
  by_cases U:k=f
  ·rw[A6 U];by_cases h:g=k
   ·have O:(g==k)=true:=beq_iff_eq.mpr h;simp![Vq,O,A6 (h.trans U)]
   ·have O:(g==k)=false:=beq_eq_false_iff_ne.mpr h;simp![Vq,O,A4 (λe:g=f=>h (e.trans U.symm))]
  ·rw[A4 U];by_cases h:g=k
   ·have O:(g==k)=true:=beq_iff_eq.mpr h;simp![Vq,O,A4 (λe:g=f=>U (h.symm.trans e))]
   ·have O:(g==k)=false:=beq_eq_false_iff_ne.mpr h;simp![Vq,O];exact Z
def wW (f:Str)(v:V):∀fs:oq (Str×V),f∈(iE f v fs).map (·.1)/\∀g,g∈fs.map (·.1)->g∈(iE f v fs).map (·.1)
 | []=>⟨by simp[iE],λg h=>by simp at h⟩
 |(k,x)::r=>by
  erw[wW f v r,U,Z];rw[show iE f v ((k,x)::r)=(if k=f then(k,v)::r else(k,x)::iE f v r) from rfl]
  by_cases O:k=f
  ·rw[A6 O];subst O;exact⟨by simp,λg h=>by simpa using h⟩
  ·rw[A4 O];exists ?_,λg h=>?_
   ·rw[uD];exact uj _ U
   ·rw[uD] at h⊢;rcases Aa.mp h with e|e
    ·exact Aa.mpr (.inl e)
    ·exact uj _ (Z g e)
def wn (f:Str)(v:V):∀fs:oq (Str×V),↑(iE f v fs)<=↑fs+1
 | []=>by simp[iE]
 |(k,x)::r=>by
  have U:=wn f v r;rw[show iE f v ((k,x)::r)=(if k=f then(k,v)::r else(k,x)::iE f v r) from rfl]
  by_cases O:k=f
  ·rw[A6 O,uB,uB];omega
  ·rw[A4 O,uB,uB];omega
variable {v:V}
def mZ.some_of {o:ot o7}(r:mZ (u_ v) o):∃u,o=u_ u/\ik v u:=by
 cases o with
 |none=>exact(show False from r).elim
 |some u=>exact[u:1:r]
def mZ.kX {o:ot o7}(r:mZ U_ o):o=none:=by
 cases o with
 |none=>rfl
 |some u=>exact(show False from r).elim
def EK (r:ik v u):PySem.W.handedIn u=true:=by
 cases v with
 |non=>cases(show u=VL from r);rfl
 |bl b=>cases(show u=Gm b from r);rfl
 |int i=>obtain⟨t,e⟩:=(show∃t,u=gT i t from r);cases e;rfl
 |str x=>obtain⟨t,e⟩:=(show∃t,u=Vt x t from r);cases e;rfl
 |byt b=>obtain⟨t,e⟩:=(show∃t,u=rc b t from r);cases e;rfl
 |flt b=>obtain⟨t,e⟩:=(show∃t,u=Td b t from r);cases e;rfl
 |ref a=>cases(show u=V7 a from r);rfl
 |ty n=>cases(show u=gV n from r);rfl
section
variable {P:oh}{w:oj}{H H':Hp}{h h':og}{a C dx:o6}{fs fs':oq (Str×V)}
def Kk (hok:HOk P w H h)(e:H a=u_ (.ins C dx fs)):∃mA,PQ h a dx C mA/\(∀f,mZ (fs.lookup f) (mA f))/\PySem.Within mA (fs.map (·.1))/\↑fs<=1000/\H dx=u_ (.own a):=by
 obtain⟨d,z,ne,ob,mA,n,r,q⟩:=(show Q6 P w H h a (.ins C dx fs) from hok a _ e)
 exact⟨mA,[ob:n:ne],r,q,z,d⟩
end
structure Cls (K:o0)(C:o6):Prop where
 pg:PySem.W.plainGet K C To=v_
 hd:PySem.W.hasDictIn K C=v_
 po:PySem.W.plainOver K C=v_
 sa:PySem.W.findIn K (.ref C) "__setattr__"=u_ (u_ (.builtin "object.__setattr__"))
def Cls.get (c:Cls K C)(f:Str):PySem.W.plainGet K C f=true:=c.pg
nonrec def QH (K:o0)(C:o6)(f:Str):Prop:=PySem.W.findIn K (.ref C) f=u_ U_
def QH.taker {f:Str}(n:QH K C f):PySem.W.takerIn K C f=u_ none:=by
 unfold PySem.W.takerIn;rw[show PySem.W.findIn K (.ref C) f=u_ U_ from n]
 rfl
structure Sb (K:o0)(C:o6)(m:Str)(f:o6):Prop where
 at_:PySem.W.findIn K (.ref C) m=u_ (u_ (.ref f))
 fn:PySem.W.isFn K (.ref f)=v_
 kp:PySem.W.keepIn K (.ref f)=v_
section
variable {X:Cx}{ou:oq (o6×Obj)}{σ:St}{H:Hp}{s:o9}{a C dx:o6}{fs:oq (Str×V)}{f:Str}{v:V}{A:om}{E:o7->o9->Prop}
def Wr {b:Bool}{Q:o7->o9->Prop}(I:#[I])(e:H a=u_ (.ins C dx fs))(c:Cls X.K C)(n:QH X.K C f)(l:fs.lookup f=u_ v)
  (h:∀u s',Inv X ou σ H s'->ik v u->Q u s'):V2 #[X,X] A (tV (.ref a) f b) Q E s:=by
 erw[Kk I.hok e,mA,O,r,_,_,_];obtain⟨u,U,ru⟩:=mZ.some_of (v:=v) (o:=mA f) (by rw[<-l];exact r f)
 exact Pd I.kIn O (c.get f) c.hd n U (EK ru) (h u _ (I.tok _) ru)
def zB {m:Str}{g:o6}{pl:Sem Bool}{Q:o7×oq o7->o9->Prop}(I:#[I])(e:H a=u_ (.ins C dx fs))(c:Cls X.K C)(k:Sb X.K C m g)(l:fs.lookup m=U_)
  (h:Q (.ref g,[.ref a]) s):V2 #[X,X] A (Gx (.ref a) m pl) Q E s:=by
 erw[Kk I.hok e,mA,O,r,_,_,_];have hn:mA m=none:=mZ.kX (by rw[<-l];exact r m)
 exact Ls I.kIn O (c.get m) k.at_ k.fn hn h
def WX {y:V}{u:o7}{Q:Unit->o9->Prop}(I:#[I])(e:H a=u_ (.ins C dx fs))(c:Cls X.K C)(n:QH X.K C f)(hl:↑fs<1000)(ry:ik y u)
  (h:∀s',Inv X ou σ (upd H a (.ins C dx (iE f y fs))) s'->Q V_ s'):V2 #[X,X] A (setAttr (.ref a) f u) Q E s:=by
 erw[Kk I.hok e,mA,O,r,wi,_,Z];have hz:(fs.map (·.1)).length<=sizeLine:=by rw[u9,uE];omega
 refine NH I.kIn O c.sa c.po n.taker c.hd wi hz λh' U sb=>h _ ?_;have hd:∃o,h'.get? dx=u_ o:=let⟨o,_,_,e',_⟩:=U.ns;[o:e'];refine I.write (x:=a) (e:=dx) (by rw[e];exact Vr) (.inr Z) (λb q hb z=>(sb.2 b hb).trans z) hd ?_
 refine⟨by rwa[qh O.ne],?_,O.ne,U.obj,_,U.ns,λg=>?_,λg hg=>?_⟩
 ·have:=wn f y fs;omega
 ·show mZ ((iE f y fs).lookup g) (if g=f then u_ u else mA g)
  rw[qI];by_cases q:g=f
  ·rwa[A6 q,A6 q]
  ·rw[A4 q,A4 q];exact r g
 ·by_cases q:g=f
  ·rw[q];exact(wW f y fs).1
  ·refine(wW f y fs).2 g (wi g λz=>hg ?_);show(if g=f then u_ u else mA g)=U_
   rw[A4 q];exact z
def Inv.made (I:#[I]):Inv X ou σ (upd (upd H #[0,s] (.own (#[0,s]+1))) (#[0,s]+1) (.ins C #[0,s] []))
  {s with heap:=(s.heap.push PySem.W.emptyDict).push (PySem.W.instObj C #[0,s])}:=by
 have O:(s.heap.push PySem.W.emptyDict).get? #[0,s]=u_ PySem.W.emptyDict:=uL s.heap rfl;have e2:((s.heap.push PySem.W.emptyDict).push (PySem.W.instObj C #[0,s])).get? (#[0,s]+1)=u_ (PySem.W.instObj C #[0,s]):=by
  have:=uL (s.heap.push PySem.W.emptyDict) (o:=PySem.W.instObj C #[0,s]) rfl
  rwa[vo] at this
 have e3:(s.heap.push PySem.W.emptyDict).Ns #[0,s] (λ_=>U_):=⟨PySem.W.emptyDict,#[],_,O,1,(λe U=>A8 U (by simp)),λ_=>rfl⟩
 have Z:=I.laid (a:=#[0,s]) (o:= .own (#[0,s]+1)) (h':=s.heap.push PySem.W.emptyDict) (t':=s.toks) (λb u q=>ud _ q) (uA _) [_:O];refine Z.laid (a:=#[0,s]+1) (o:= .ins C #[0,s] []) (t':=s.toks) (λb u q=>ud _ q) (Fy (vo _ _)) ?_;have ne:#[0,s]≠#[0,s]+1:=v7 (UX _);refine⟨by rw[qh ne,qg],uY _,ne,e2,λ_=>U_,(pk e3).at λo q=>ud _ q,λ_=>Vr,λy hy=>A8 rfl hy⟩
def Py {prog:oh}{w:oj}{env:Env}{e:Expr}{f:Str}{pos:Pos}{s:o9}{Q:o7->o9->Prop}(O:G9 e f env (eval e env)=eval e env)
  (h:V2 #[w,w] A (eval e env) (λo U=>V2 #[w,w] A (tV o f v_) Q E U) E s):V2 #[w,w] A (eval (.Attribute e f pos) env) Q E s:=
 Attribute_any_ h (by rw[arm_eval_Attribute,O])
end
inductive Adb (K:PySem.W.Frag)(f:Str)(Q:VK)(x:V)(H1:Hp):Prop
 |mk (a:_)(C:_)(dx:_)(fs:_)(v:_)(_:x= .ref a)(_:H1 a=u_ (.ins C dx fs))(_:Cls K C)(_:QH K C f)(_:fs.lookup f=u_ v)(_:Q v H1)
nonrec def Ach (K:o0)(ta:TE)(f:Str):TE:=λσ H Q=>ta σ H λx H1=>Adb K f Q x H1
inductive Ade (K:PySem.W.Frag)(f:Str)(D:mL)(σ:St)(y:V)(x:V)(H2:Hp):Prop
 |mk (a:_)(C:_)(dx:_)(fs:_)(_:x= .ref a)(_:H2 a=u_ (.ins C dx fs))(_:Cls K C)(_:QH K C f)(_:↑fs<1000)(_:D.nx σ (upd H2 a (.ins C dx (iE f y fs))))
nonrec def AdT (K:o0)(ta tv:TE)(f:Str):TS:=λD σ H=>tv σ H λy H1=>ta σ H1 λx H2=>Ade K f D σ y x H2
nonrec def AdG (X:Cx)(op:GK)(rd:V->V->Hp->VK->Prop):Prop:=
 ∀(ou:oq (o6×Obj)) (s:o9) (σ:St) (H:Hp) (x y:V) (u v:o7) (Q:VK),#[I]->ik x u->ik y v->rd x y H Q->V2 #[X,X] X.A (Hx op u v) (EP X ou σ Q) X.xe s
inductive LK (K:PySem.W.Frag)(tv:TE)(rd:V->V->Hp->VK->Prop)(f:Str)(D:mL)(σ:St)(x:V)(H1:Hp):Prop
 |mk (a:_)(C:_)(dx:_)(fs:_)(v:_)(_:x= .ref a)(_:H1 a=u_ (.ins C dx fs))(_:Cls K C)(_:QH K C f)(_:fs.lookup f=u_ v)(_:tv σ H1 λy H2=>rd v y H2 λz H3=>∃dx' fs',H3 a=u_ (.ins C dx' fs')/\↑fs'<1000/\D.nx σ (upd H3 a (.ins C dx' (iE f z fs'))))
nonrec def NI (K:o0)(ta tv:TE)(rd:V->V->Hp->VK->Prop)(f:Str):TS:=λD σ H=>ta σ H λx H1=>LK K tv rd f D σ x H1
section
variable {X:Cx}{o e value:Expr}{f:Str}{pos pos' tpos:Pos}{ta tv:TE}
def qO (O:PE X e ta)(U:G9 e f X.env (eval e X.env)=eval e X.env):PE X (.Attribute e f pos) (Ach X.K ta f):=by
 exists 2,Q,I,h;refine Py U (thn (O ou s σ H _ I h) λu s1 zq=>?_);erw[zq,x,H1,Z,rx,a,C,dx,fs,v,ex,ea,c,n,l,q];subst ex;obtain rfl:u=V7 a:=rx;exact Wr Z ea c n l λu' s2 I2 ru=>⟨v,H1,I2,ru,q⟩
def Qe (ha:PE X o ta)(O:PE X value tv)(U:GB value (u_ (.Attribute o f pos')) pos.line X.env=pure V1):PS X (.Assign [.Attribute o f pos'] value pos) (AdT X.K ta tv f):=by
 exists 2,D,I,h;refine plainObj_wpAny_Assign_Attribute (thn (O ou s σ H _ I h) λu s1 ⟨y,H1,Z,ry,q⟩=>thn (ha ou s1 σ H1 _ Z q) λov s2 zq=>?_) U;erw[zq,x,H2,I2,rx,a,C,dx,fs,ex,ea,c,n,l,q2];subst ex;obtain rfl:ov=V7 a:=rx;exact WX I2 ea c n l ry λs3 I3=>⟨σ,_,I3,q2⟩
def Jg {Z:GK}{rd:V->V->Hp->VK->Prop}(ha:PE X o ta)(hv:PE X value tv)(O:AdG X Z rd):PS X (.AugAssign (.Attribute o f tpos) Z value pos) (NI X.K ta tv rd f):=by
 exists 2,D,I,h;refine wpAny_AugAssign_AttributeAny (thn (ha ou s σ H _ I h) λov s1 zq=>?_);erw[zq,x,H1,I1,rx,a,C,dx,fs,v,ex,ea,c,n,l,q];subst ex;obtain rfl:ov=V7 a:=rx;refine Wr I1 ea c n l λu s2 I2 ru=>thn (hv ou s2 σ H1 _ I2 q) λw3 s3 ⟨y,H2,I3,ry,q3⟩=>thn (O ou s3 σ H2 v y u w3 _ I3 ru ry q3) λw4 s4 zq=>?_;erw[zq,z,H3,I4,rz,dx',fs',U,l',q4];exact WX I4 U c n l' rz λs5 I5=>⟨σ,_,I5,q4⟩
inductive Ad2 (x:V)(y:V)(H:Hp)(Q:VK):Prop
 |mk (i:_)(j:_)(_:x= .int i)(_:y= .int j)(_:Q (.int (i+j)) H)
def pX:AdG X .Add Ad2:=by
 rintro ou s σ H x y u v Q I O U ⟨i,j,rfl,rfl,q⟩;obtain⟨t,rfl⟩:=(show∃t,u=gT i t from O)
 obtain⟨t',rfl⟩:=(show∃t',v=gT j t' from U)
 exact pw ⟨.int (i+j),H,I.tok _,⟨0⟩,q⟩
end
section
variable {X:Cx}{ou:oq (o6×Obj)}{σ:St}{H:Hp}{s:o9}{A:om}{E:o7->o9->Prop}{Q:o7->o9->Prop}{c:o7}{b:Bool}
inductive BY (K:PySem.W.Frag)(H:Hp):V->Value->Prop where
 |non:BY K H .non (.type "NoneType")
 |bl (x:Bool):BY K H (.bl x) (.type "bool")
 |int (i:Int):BY K H (.int i) (.type "int")
 |str (x:Str):BY K H (.str x) (.type "str")
 |flt (x:UInt64):BY K H (.flt x) (.type "float")
 |lst {a:Addr}{xs:List V}(e:H a=u_ (.lst xs)):BY K H (.ref a) (.type "list")
 |frz {a:Addr}{o:Obj}{xs:List V}(e:H a=u_ (.frz o (.lst xs))):BY K H (.ref a) (.type "list")
 |tup {a:Addr}{xs:List V}(e:H a=u_ (.tup xs)):BY K H (.ref a) (.type "tuple")
 |dK {a:Addr}{kvs:List (Key×V)}(e:H a=u_ (.dK kvs)):BY K H (.ref a) (.type "dict")
 |dT {a:Addr}{kvs:List (List Key×V)}(e:H a=u_ (.dT kvs)):BY K H (.ref a) (.type "dict")
 |ins {a C dx:Addr}{fs:List (Str×V)}(e:H a=u_ (.ins C dx fs))(cl:Cls K C)(ha:PySem.W.findIn K (.ref C) "__class__"=u_ (u_ (.builtin "object.__class__")))
   (hn:PySem.W.specialIn K (.builtin "object.__class__") "__get__"=u_ (u_ (.builtin "getset_descriptor.__get__"))) (htk:PySem.W.takesIn K (.builtin "object.__class__")=u_ v_)
   (hm:PySem.W.mroIn K C (.type "object")=u_ v_):BY K H (.ref a) (.ref C)
def ED {t:o7}(I:#[I])(U:ik x u)(ty:BY X.K H x t)(e:PySem.W.kitOne X.K t c=u_ b)(h:∀tk,Q (.bool b) {s with toks:=tk}):
  V2 #[X,X] A (call (.builtin "isinstance") [u,c]) Q E s:=by
 cases ty with
 |non=>cases(show u=VL from U);exact vx PySem.W.kitx_none I.kIn Vr e (λz=>nomatch z) h
 |bl y=>cases(show u=Gm y from U);exact vx PySem.W.kitx_bool I.kIn Vr e (λz=>nomatch z) h
 |int i=>obtain⟨t,q⟩:=(show∃t,u=gT i t from U);cases q;exact vx PySem.W.kitx_int I.kIn Vr e (λz=>nomatch z) h
 |str y=>obtain⟨t,q⟩:=(show∃t,u=Vt y t from U);cases q;exact vx PySem.W.kitx_str I.kIn Vr e (λz=>nomatch z) h
 |flt y=>obtain⟨t,q⟩:=(show∃t,u=Td y t from U);cases q;exact vx PySem.W.kitx_float I.kIn Vr e (λz=>nomatch z) h
 | @lst a xs ea=>
  cases(show u=V7 a from U)
  obtain⟨_,_,n,_,h1⟩:=(show Q6 X.prog X.w H s.heap a (.lst xs) from I.hok a _ ea)
  exact vx PySem.W.kitx_list I.kIn [_:h1:1] e (λz=>nomatch z) h
 | @frz a ob xs ea=>
  cases(show u=V7 a from U)
  obtain⟨_,_,_,n,_,h1⟩:=(show Q6 X.prog X.w H s.heap a (.frz ob (.lst xs)) from I.hok a _ ea)
  exact vx PySem.W.kitx_list I.kIn [_:h1:1] e (λz=>nomatch z) h
 | @tup a xs ea=>
  cases(show u=V7 a from U)
  obtain⟨_,_,_,p⟩:=(show Q6 X.prog X.w H s.heap a (.tup xs) from I.hok a _ ea)
  erw[p,o,h1,h2,_];exact vx PySem.W.kitx_tuple I.kIn [o:h1:h2] e (λz=>nomatch z) h
 | @dK a kvs ea=>
  cases(show u=V7 a from U)
  obtain⟨_,_,vs,_,p⟩:=(show Q6 X.prog X.w H s.heap a (.dK kvs) from I.hok a _ ea)
  erw[p,o,es,ep,h1,h2,_];exact vx PySem.W.kitx_dict I.kIn [o:h1:h2.1] e (λz=>nomatch z) h
 | @dT a kvs ea=>
  cases(show u=V7 a from U)
  obtain⟨_,_,xs,_,o,es,ep,h1,h2,_⟩:=(show Q6 X.prog X.w H s.heap a (.dT kvs) from I.hok a _ ea)
  exact vx PySem.W.kitx_dict I.kIn [o:h1:h2.1] e (λz=>nomatch z) h
 | @ins a C dx fs ea cl ha hn htk hm=>
  cases(show u=V7 a from U)
  erw[Kk I.hok ea,mA,O,_];erw[O.look,od,J,_];exact vx (PySem.W.kitx_own (cl.get _) cl.hd ha hn htk hm) I.kIn J e (λz=>nomatch z) h
end
structure mw (k:Nat)(A:om):Prop where
 hd:A.handled=U_
 dp:A.depth+3*k+5<recursionLimit
 un:A.units+16*k+200<Vb
variable {j:Nat}
def mw.mono {k:Nat}(r:mw k A)(h:j<=k):mw j A:=⟨r.hd,by have:=r.dp;omega,by have:=r.un;omega⟩
def mw.deeper {k:Nat}(r:mw (k+1) A)(env:Env):mw k (A.deeper env):=
 ⟨r.hd,by have:=r.dp;show A.depth+1+3*k+5<_;omega,by have:=r.un;show A.units+3+16*k+200<_;omega⟩
def Cy {kw:oq (Str×o7)}:(A.under (.builtin "type.__call__" [.ref C::us:kw])).depth=A.depth+1:=by
 first|rfl|simp[TJ,Code.weight,Code.isCreation,Code.isGuard,Code.isCaller,Rx,tY,guardIds]
def Cw {kw:oq (Str×o7)}:(A.under (.builtin "type.__call__" [.ref C::us:kw])).units=A.units+1:=by
 first|rfl|simp[TJ,Code.cUnits,Rx,tY]
def mw.make {k:Nat}(r:mw (k+1) A)(C:o6)(us:oq o7)(kw:oq (Str×o7)):mw k (A.under (.builtin "type.__call__" [.ref C::us:kw])):=
 ⟨r.hd,by have:=r.dp;rw[Cy];omega,by have:=r.un;rw[Cw];omega⟩
def mw.depth {k:Nat}(r:mw k A):A.depth<recursionLimit:=by have:=r.dp;omega
def mw.units {k:Nat}(r:mw k A):A.units+64<cLine:=by have:=r.un;omega
def mw.units0 {k:Nat}(r:mw k A):A.units<cLine:=by have:=r.un;omega
nonrec def Sq:TA:=λ_ H Q=>Q [] H
nonrec def IL (ta:TE)(tr:TA):TA:=λσ H Q=>ta σ H λx H1=>tr σ H1 λxs H2=>Q (x::xs) H2
section
variable {X:Cx}{e:Expr}{es:oq Expr}{te:TE}{t:TA}{pos:Pos}
def qd:PA X [] Sq:=λ_ _ _ _ H Q I h=>US ⟨[],H,I,.nil,h⟩
def qb (ha:PE X e te)(O:PA X es t)(U:V6 (e::es) X.env=(V1,eval e X.env)::V6 es X.env:=by rfl):PA X (e::es) (IL te t):=by
 intro pos ou s σ H Q I h;rw[U];show V2 _ _ (spliced ((V1,eval e X.env)::Vd pos (V6 es X.env))) _ _ s;refine Uh (thn (ha ou s σ H _ I h) λu s1 zq=>?_);erw[zq,x,H1,Z,r1,q1];exact thn (O pos ou s1 σ H1 _ Z q1) λus s2 ⟨xs,H2,I2,r2,q2⟩=>⟨x::xs,H2,I2,.cons r1 r2,q2⟩
nonrec def AdJ (t:TA):TE:=λσ H Q=>t σ H λxs H1=>↑xs<=V5/\∀p,H1 p=U_->Q (.ref p) (upd H1 p (.tup xs))
nonrec def AdN (t:TA):TE:=λσ H Q=>t σ H λxs H1=>↑xs<=V5/\∀p,H1 p=U_->Q (.ref p) (upd H1 p (.lst xs))
def qz {x1}(h:PA X es t):PE X (.Tuple es x1 pos) (AdJ t):=by
 exists 2,Q,I,U;refine wpAny_Tuple_spliced (thn (h pos ou s σ H _ I U) λus s1 ⟨xs,H1,O,r,z,q⟩=>⟨by rwa[<-↑r],?_⟩)
 have Z:H1 #[0,s1]=none:=O.hok.fresh (uA _);exists .ref #[0,s1],upd H1 #[0,s1] (.tup xs),O.laid (t':=s1.toks) (λb u e=>ud _ e) (uA _) ?_,1,q _ Z;exact⟨z,us,r,⟨_,uL _ rfl,1,0⟩⟩
def Y4 (h:PA X es t):PE X (.List es pos) (AdN t):=by
 exists 2,Q,I,U;refine wpAny_List_spliced (thn (h pos ou s σ H _ I U) λus s1 ⟨xs,H1,O,r,z,q⟩=>⟨by rwa[<-↑r],?_⟩)
 have Z:H1 #[0,s1]=none:=O.hok.fresh (uA _);exists .ref #[0,s1],upd H1 #[0,s1] (.lst xs),O.laid (t':=s1.toks) (λb u e=>ud _ e) (uA _) ?_,1,q _ Z;exact⟨z,us,(0),r,uL _ rfl⟩
end
noncomputable abbrev Sp:=oq V->Hp->VK->XK->Prop
noncomputable abbrev CXT:=oq Env->Hp->o9->XK->o7->o9->Prop
structure P0 (P:oh)(w:oj)(K:o0)(mg:Str->ot o7)(base:og)(A:om)(outer:oq Env)(s:o9)(H:Hp):Prop where
 frames:A.frames=u_ outer
 mod:Mod K mg base
 bs:∀b o,base.get? b=u_ o->s.heap.get? b=u_ o/\H b=U_
 bsz:base.objs.size<=#[0,s]
 funs:s.heap.FunFrames base outer
 frf:∀b∈frs outer,H b=U_
 hok:HOk P w H s.heap
 bare:VO s.gens
nonrec def CE (outer:oq Env)(P:oh)(w:oj)(H:Hp)(s:o9)(Q:VK)(u:o7)(s':o9):Prop:=
 ∃v H',s'.os=s.os/\VO s'.gens/\0<s'.toks/\Un (frs outer) [] H H' s.heap s'.heap/\HOk P w H' s'.heap/\ik v u/\Q v H'
nonrec def CR (CX:CXT)(outer:oq Env)(P:oh)(w:oj)(H:Hp)(s:o9)(Q:VK)(E:XK)(r:Ge)(s':o9):Prop:=
 match r with
 | .ok (.ret u)=>CE outer P w H s Q u s'
 | .ok _=>False
 | .error e=>CX outer H s E e s'
structure FnOk (P:oh)(w:oj)(K:o0)(mg:Str->ot o7)(base:og)(CX:CXT)(k:Nat)(f:o6)(fd:V4)(ps:oq Str)(sp:Sp):Prop where
 len:∀vs H Q E,sp vs H Q E->↑vs=↑ps
 run:∀(A:om) (outer:oq Env) (s:o9) (H:Hp) (args:Args) (us:oq o7) (vs:oq V) (Q:VK) (E:XK),mw k A->P0 P w K mg base A outer s H->Gj s fd args (ps.zip us)->iq vs us->sp vs H Q E->(0<s.toks∨∃x r,ps=x::r/\fd.scope.names.lookup x=u_ .local)->
  VD (Vg P w) A (.call (.ref f) args) (CR CX outer P w H s Q E) s
variable {mg:Str->ot o7}{base:og}
def P0.make {P:oh}{outer:oq Env}(e:P0 P w K mg base A outer s H)(C:o6)(us:oq o7)(kw:oq (Str×o7)):
  P0 P w K mg base (A.under (.builtin "type.__call__" [.ref C::us:kw])) outer s H:=⟨by first|exact e.frames|(simpa [TJ,Code.envs,tY,pushEnvs] using e.frames),e.mod,e.bs,e.bsz,e.funs,e.frf,e.hok,e.bare⟩
section
variable {X:Cx}{ou:oq (o6×Obj)}{σ:St}{H:Hp}{s s':o9}
def Inv.env0 (I:#[I]):P0 X.prog X.w X.K X.mg X.base X.A X.stack s H:=
 ⟨I.ok.frames,I.ok.mod,I.bs,vg I.ok.bsz I.sz,I.stack,I.stkFree,I.hok,I.bare⟩
variable {Q:VK}
def Inv.after (I:#[I])(h:CE X.stack X.prog X.w H s Q u s'):EP X ou σ Q u s':=by
 erw[h,v,H',os,bare,htk,un,hok,r,q];erw[s',U,g,d,t,O];obtain rfl:O=s.os:=os;exact⟨v,H',I.call (h':=U) (g':=g) (d':=d) (t':=t) (ch:= []) un hok bare (λb z=>A8 z (by simp)),r,q⟩
end
nonrec def Acm (sp:Sp)(dvs:oq V)(E:XK)(t:TA):TE:=λσ H Q=>t σ H λvs H1=>sp (vs++dvs) H1 Q E
inductive AbP (C:Addr)(m:Str)(sp:Sp)(dvs:List V)(E:XK)(t:TA)(σ:St)(Q:VK)(x:V)(H1:Hp):Prop
 |mk (a:_)(dx:_)(fs:_)(_:x= .ref a)(_:H1 a=u_ (.ins C dx fs))(_:fs.lookup m=U_)(_:t σ H1 λvs H2=>sp (x::(vs++dvs)) H2 Q E)
nonrec def Sv (C:o6)(m:Str)(sp:Sp)(dvs:oq V)(E:XK)(ta:TE)(t:TA):TE:=λσ H Q=>ta σ H λx H1=>AbP C m sp dvs E t σ Q x H1
nonrec def Acg (C:o6)(sp:Sp)(dvs:oq V)(E:XK)(t:TA):TE:=λσ H Q=>t σ H λvs H1=>∀x dx,H1 x=U_->H1 dx=U_->dx≠x->
 sp (.ref x::(vs++dvs)) (upd (upd H1 dx (.own x)) x (.ins C dx [])) (λv H2=>v= .non/\Q (.ref x) H2) E
nonrec def xM (K:o0)(fd:V4)(ps:oq Str)(ds:oq o7):Prop:=
 ∀(s:o9) (us:oq o7),K.In s.heap->↑(us++ds)=↑ps->Gj s fd [us:[]] (ps.zip (us++ds))
variable {fd:V4}
def xM.all {ps:oq Str}(h:∀us:oq o7,↑us=↑ps->gU fd [us:[]]=pure (ps.zip us)):xM K fd ps []:=λs us _ O=>by
 rw[uX] at O⊢;exact .of_eq (h us O)
nonrec def Xq (CX:CXT)(X:Cx)(E:XK):Prop:=∀(ou:oq (o6×Obj)) (σ:St) (H:Hp) (s:o9) (e:o7) (s':o9),#[I]->CX X.stack H s E e s'->X.xe e s'
section
variable {X:Cx}{CX:CXT}{k:Nat}{f C:o6}{fd:V4}{ps:oq Str}{sp:Sp}{dvs:oq V}{ds:oq o7}{E:XK}{x m:Str}{p pos apos:Pos}{e o:Expr}{es:oq Expr}{ta:TE}{t:TA}
def Ba {ou:oq (o6×Obj)}{σ:St}{H:Hp}{s:o9}{Q:VK}{us:oq o7}{vs:oq V}(F:FnOk X.prog X.w X.K X.mg X.base CX k f fd ps sp)(Z:mw k X.A)(hb:xM X.K fd ps ds)(hd:iq dvs ds)(hx:Xq CX X E)
  (I:#[I]) (r:iq vs us) (h:sp (vs++dvs) H Q E):V2 #[X,X] X.A (call (.ref f) us) (EP X ou σ Q) X.xe s:=by
 have U:iq (vs++dvs) (us++ds):=r.append hd;have hl:↑(us++ds)=↑ps:=by rw[<-↑U];exact F.len _ _ _ _ h
 refine GQ (Um (F.run X.A X.stack s H [us:[]] (us++ds) (vs++dvs) Q E Z I.env0 (hb s us I.kIn hl) U h (.inl I.tk)) λr s' O=>?_);cases r with
 |error e=>exact hx ou σ H s e s' I O
 |ok fl=>
  cases fl with
  |ret u=>exact I.after O
  |next=>exact Vk O
  |brk=>exact Vk O
  |cont=>exact Vk O
def qu (F:FnOk X.prog X.w X.K X.mg X.base CX k f fd ps sp)(hr:mw k X.A)(hg:Gl X x)(hm:X.mg x=u_ (.ref f))(hk:PySem.W.keepIn X.K (.ref f)=v_)(hb:xM X.K fd ps ds)(hd:iq dvs ds)(hx:Xq CX X E)
  (ha:PA X (e::es) t) (O:(x==("__debug__":Str))=V1) (he:V6 (e::es) X.env=(V1,eval e X.env)::V6 es X.env) (U:(Vd pos (V6 es X.env)).any (·.1)=V1):
  PE X (.Call (.Name x p) (e::es) [] pos) (Acm sp dvs E t):=by
 exists 2,Q,I,h;refine UF (wy I hg hm ?_ O);refine Ui (h₀:=X.base) I.ok.mod.kin hk (thn (ha pos ou s σ H _ I h) λus s1 ⟨vs,H1,Z,r,q⟩=>[Z.kIn:?_]) he U;exact Ba F hr hb hd hx Z r q
def Qf {pl:Sem Bool}(he:PE X o ta)(c:Cls X.K C)(hm:Sb X.K C m f)(F:FnOk X.prog X.w X.K X.mg X.base CX k f fd ps sp)(hr:mw k X.A)(hb:xM X.K fd ps ds)(hd:iq dvs ds)(hx:Xq CX X E)(ha:PA X (e::es) t)
  (O:V6 (e::es) X.env=(V1,eval e X.env)::V6 es X.env) (U:(Vd pos (V6 es X.env)).any (·.1)=V1)
  (ht:eval (.Call (.Attribute o m apos) (e::es) [] pos) X.env=(do
   let ov<-eval o X.env
   G6 apos.atName
   let(f,first)<-VR [ov] (Gx ov m pl)
   GJ pos f first (Vd pos (V6 (e::es) X.env)) (VT pos (VY [] X.env)))):
  PE X (.Call (.Attribute o m apos) (e::es) [] pos) (Sv C m sp dvs E ta t):=by
 exists 2,Q,I,h;refine PySem.W.methodCall_KW (pl:=pl) (thn (he ou s σ H _ I h) λu s1 zq=>?_) ht;erw[zq,x,H1,Z,rx,a,dx,fs,ex,ea,l,q];subst ex;obtain rfl:u=V7 a:=rx;refine zB Z ea c hm l ?_;refine Ui (first:= [.ref a]) (h₀:=X.base) I.ok.mod.kin hm.kp (thn (ha pos ou s1 σ H1 _ Z q) λus s2 ⟨vs,H2,I2,r,q2⟩=>[I2.kIn:?_]) O U;exact Ba (us:= .ref a::us) (vs:= .ref a::vs) F hr hb hd hx I2 (.cons rfl r) q2
def QE {pl:Sem Bool}(U:PE X o ta)(c:Cls X.K C)(hm:Sb X.K C m f)(F:FnOk X.prog X.w X.K X.mg X.base CX k f fd ps sp)(Z:mw k X.A)(hb:xM X.K fd ps ds)(hd:iq dvs ds)(hx:Xq CX X E)
  (ht:eval (.Call (.Attribute o m apos) [] [] pos) X.env=(do
   let ov<-eval o X.env
   G6 apos.atName
   let(f,first)<-VR [ov] (Gx ov m pl)
   GJ pos f first (Vd pos (V6 [] X.env)) (VT pos (VY [] X.env)))):
  PE X (.Call (.Attribute o m apos) [] [] pos) (Sv C m sp dvs E ta Sq):=by
 exists 2,Q,I,h;refine PySem.W.methodCall_KW (pl:=pl) (thn (U ou s σ H _ I h) λu s1 zq=>?_) ht;erw[zq,x,H1,O,rx,a,dx,fs,ex,ea,l,q];subst ex;obtain rfl:u=V7 a:=rx;refine zB O ea c hm l ?_;exact PySem.W.callWith_K0 (first:= [.ref a]) O.kIn hm.kp (Ba (us:= [.ref a]) (vs:= [.ref a]) F Z hb hd hx O (.cons rfl .nil) q)
structure Mk (K:o0)(C f:o6):Prop where
 makes:PySem.W.makesIn K C=v_
 init:PySem.W.findIn K (.ref C) "__init__"=u_ (u_ (.ref f))
 fn:PySem.W.isFn K (.ref f)=v_
 kp:PySem.W.keepIn K (.ref C)=v_
def Kx {ou:oq (o6×Obj)}{σ:St}{H:Hp}{s:o9}{Q:VK}{us:oq o7}{vs:oq V}(M:Mk X.K C f)(F:FnOk X.prog X.w X.K X.mg X.base CX k f fd ps sp)(hr:mw (k+1) X.A)(hb:xM X.K fd ps ds)(hd:iq dvs ds)
  (hx:Xq CX X E) (I:#[I]) (r:iq vs us)
  (h:∀x dx,H x=U_->H dx=U_->dx≠x->sp (.ref x::(vs++dvs)) (upd (upd H dx (.own x)) x (.ins C dx [])) (λv H2=>v= .non/\Q (.ref x) H2) E):
  V2 #[X,X] X.A (call (.ref C) us) (EP X ou σ Q) X.xe s:=by
 have Z:=h (#[0,s]+1) #[0,s] (I.hok.fresh (GF _)) (I.hok.fresh (uA _)) (v7 (UX _));have U:=Inv.made (C:=C) I;have r2:iq (V.ref (#[0,s]+1)::(vs++dvs)) (V7 (#[0,s]+1)::(us++ds)):= .cons rfl (r.append hd);have hl:↑(V7 (#[0,s]+1)::us++ds)=↑ps:=by
  have e:=↑r2;rw[F.len _ _ _ _ Z] at e;exact e.symm
 refine GQ (Li (f:=f) I.kIn M.makes M.init (beq_iff_eq.mp M.fn) (Um (F.run _ X.stack _ _ [V7 (#[0,s]+1)::us:[]] (V7 (#[0,s]+1)::(us++ds)) _ _ E (hr.make C us [])
  (U.env0.make C us []) (hb _ (V7 (#[0,s]+1)::us) U.kIn hl) r2 Z (.inl U.tk)) λr s' O=>?_))
 cases r with
 |error e=>exact hx ou σ _ _ e s' U O
 |ok fl=>
  cases fl with
  |ret u=>
   erw[U.after O,v,H',I3,rv,ev,q3];subst ev;exact[rv:⟨V.ref (#[0,s]+1),H',I3,1,q3⟩]
  |next=>exact Vk O
  |brk=>exact Vk O
  |cont=>exact Vk O
def X8 (M:Mk X.K C f)(F:FnOk X.prog X.w X.K X.mg X.base CX k f fd ps sp)(hr:mw (k+1) X.A)(hg:Gl X x)(hm:X.mg x=u_ (.ref C))(hb:xM X.K fd ps ds)(hd:iq dvs ds)(hx:Xq CX X E)
  (ha:PA X (e::es) t) (O:(x==("__debug__":Str))=V1) (he:V6 (e::es) X.env=(V1,eval e X.env)::V6 es X.env) (U:(Vd pos (V6 es X.env)).any (·.1)=V1):
  PE X (.Call (.Name x p) (e::es) [] pos) (Acg C sp dvs E t):=by
 exists 2,Q,I,h;refine UF (wy I hg hm ?_ O);refine Ui (h₀:=X.base) I.ok.mod.kin M.kp (thn (ha pos ou s σ H _ I h) λus s1 ⟨vs,H1,Z,r,q⟩=>[Z.kIn:?_]) he U;exact Kx M F hr hb hd hx Z r q
end
structure qt (N P:oq Str)(sc:Vl):Prop where
 kind:sc.kind= .function
 co:sc.isCoroutine=V1
 gen:sc.isGenerator=V1
 nd:N.Nodup
 pre:N.take ↑P=P
 par:∀x∈P,sc.names.lookup x=u_ .local∨sc.names.lookup x=u_ .cell
 nofree:∀y∈sc.names,y.2≠ .free
def sB {kindOf:Str->ot VB}{x:Str}:∀{binds:oq (Str×o7)}{m:Str->ot o7},(∀v,(x,v)∉binds)->VC kindOf binds m x=m x
 | [],_,_=>rfl
 |(n,v)::r,m,h=>by
  unfold VC;rw[sB λw O=>h w (uj _ O)];split
  ·have:x≠n:=by rintro rfl;exact h v ui
   simp[this]
  ·rfl
def sG {kindOf:Str->ot VB}{x:Str}:∀{binds:oq (Str×o7)}{m:Str->ot o7},(∀v,(x,v)∉binds)->VA kindOf binds m x=m x
 | [],_,_=>rfl
 |(n,v)::r,m,h=>by
  unfold VA;rw[sG λw O=>h w (uj _ O)];split
  ·rfl
  ·have:x≠n:=by rintro rfl;exact h v ui
   simp[this]
def sE {kindOf:Str->ot VB}{x:Str}{v:o7}:∀{P:oq Str}{vs:oq o7}{i:Nat}{m:Str->ot o7},P.Nodup->P[i]? =u_ x->vs[i]? =u_ v->kindOf x=u_ .local->
  VC kindOf (P.zip vs) m x=u_ v
 | [],_,_,_,_,h,_,_=>by simp at h
 |_::_,[],_,_,_,_,h,_=>by simp at h
 |p::P,w::vs,0,m,nd,h1,h2,hk=>by
  simp at h1 h2;subst h1;subst h2;show VC kindOf ((p,w)::P.zip vs) m p=_;unfold VC;rw[sB λv O=>(List.nodup_cons.mp nd).1 (TH O).1,A6 hk];simp
 |p::P,w::vs,i+1,m,nd,h1,h2,hk=>by
  show VC kindOf ((p,w)::P.zip vs) m x=_;unfold VC;exact sE (i:=i) (List.nodup_cons.mp nd).2 (by simpa using h1) (by simpa using h2) hk
def sJ {kindOf:Str->ot VB}{x:Str}{v:o7}:∀{P:oq Str}{vs:oq o7}{i:Nat}{m:Str->ot o7},P.Nodup->P[i]? =u_ x->vs[i]? =u_ v->kindOf x≠u_ .local->
  VA kindOf (P.zip vs) m x=u_ v
 | [],_,_,_,_,h,_,_=>by simp at h
 |_::_,[],_,_,_,_,h,_=>by simp at h
 |p::P,w::vs,0,m,nd,h1,h2,hk=>by
  simp at h1 h2;subst h1;subst h2;show VA kindOf ((p,w)::P.zip vs) m p=_;unfold VA;rw[sG λv O=>(List.nodup_cons.mp nd).1 (TH O).1,A4 hk];simp
 |p::P,w::vs,i+1,m,nd,h1,h2,hk=>by
  show VA kindOf ((p,w)::P.zip vs) m x=_;unfold VA;exact sJ (i:=i) (List.nodup_cons.mp nd).2 (by simpa using h1) (by simpa using h2) hk
nonrec def Kq (N:oq Str)(vs:oq V):St:=vs.map u_++Ff (↑N-↑vs) U_
nonrec def cxOf (CX:CXT)(P:oh)(w:oj)(K:o0)(mg:Str->ot o7)(base:og)(N:oq Str)(qual:Str)(scope:Vl)(f:o6)(cd:o7)(A:om)(outer:oq Env)(s:o9)(H:Hp)(E:XK):Cx where
 prog:=P
 w:=w
 K:=K
 mg:=mg
 base:=base
 A:=A.deeper (V8 qual scope #[0,s] f cd)
 N:=N
 s₀:=s
 H₀:=H
 env:=V8 qual scope #[0,s] f cd
 outer:=outer
 stack:=V8 qual scope #[0,s] f cd::outer
 ex:= []
 calm:=v_
 fn:=λ_=>v_
 pn:= []
 xe:=λe s'=>V2 (Vg P w) (A.deeper (V8 qual scope #[0,s] f cd)) (Tg (V8 qual scope #[0,s] f cd) e) (λ_ s''=>CX outer H s E e s'') (λe' s''=>CX outer H s E e' s'') s'
variable {n:Nat}
def BT {sc:Vl}{x:Str}(h:sc.names.lookup x=u_ .cell):∃c,(Gh n sc.names []).lookup x=u_ c:=by
 have q:=PySem.W.cellsFrom_some sc.names n [] (.inl h);exact Option.isSome_iff_exists.mp q
def EH {CX:CXT}{P:oh}{w:oj}{K:o0}{mg:Str->ot o7}{base:og}{N ps:oq Str}{qual:Str}{scope:Vl}{f:o6}{cd:o7}{A:om}{outer:oq Env}{s s1:o9}{H:Hp}{E:XK}{us:oq o7}{vs:oq V}
  (S:qt N ps scope) (hd:A.handled=U_) (O:P0 P w K mg base A outer s H) (hl:↑vs=↑ps) (r:iq vs us)
  (x:GO s #[0,s] (VC (V8 qual scope #[0,s] f cd).kindOf (ps.zip us) λ_=>U_) (Gh (#[0,s]+1) scope.names []) (VA (V8 qual scope #[0,s] f cd).kindOf (ps.zip us) λ_=>U_) s1) (ac:0<s1.toks):
  Inv (cxOf CX P w K mg base N qual scope f cd A outer s H E) [] (Kq N vs) H s1:=by
 have ad:↑ps<=↑N:=by have:=A9 Vv S.pre;rw[vy] at this;omega
 erw[x.done,h1,tk,rfl,hk];have U:∀b:o6,b∉(cxOf CX P w K mg base N qual scope f cd A outer s H E).ex:=λb z=>A8 (show b∈([]:oq o6) from z) (by simp)
 exists ⟨O.mod,S.kind,1,1,uA _,λy z c h1 h2=>?_,λy Z=>?_,λy c _ h=>?_,λ_=>hd,Around.frames_deeper O.frames,.inr [1:1],λb z=>A8 z (U b),O.bs,O.bsz,λb _ _=>U b,λb z=>A8 z (U b),O.funs,O.frf⟩,1,O.bare,Un.kept hk,[_:x.toInCall.ns:λi y v h1 h2 h3=>?_],λy c h=>[_:x.cell y c h],O.hok.fresh (uA _),λy c h=>?_,λp hp=>A8 (show p∈([]:oq (o6×Obj)) from hp) (by simp),O.hok.kept hk,?_,ac
 ·exact name_of_addr x.apart (vI h1) (vI h2)
 ·have Z:scope.names.lookup y=u_ .cell∨scope.names.lookup y=u_ .free:=Z;rcases Z with Z|Z
  ·exact BT Z
  ·exact A8 rfl (S.nofree _ (vI Z))
 ·exact UW (x.above y c (vI h))
 ·have hi:i<↑vs:=by
   unfold Kq at h2;by_cases hi:i<↑vs
   ·exact hi
   ·rw[Uw (by simpa using hi)] at h2
    rw[Rk] at h2;split at h2<;>cases h2
  have ha:vs[i]? =u_ v:=by
   unfold Kq at h2;rw[U8 (by simpa using hi),uC] at h2
   cases e:vs[i]? with
   |none=>rw[e] at h2;cases h2
   |some a=>rw[e] at h2;cases h2;rfl
  erw[r.get ha,u,hu,rv];have hp:ps[i]? =u_ y:=by
   rwa[<-S.pre,List.getElem?_take_of_lt ()]
  have aa:ps.Nodup:=by rw[<-S.pre];exact S.nd.sublist (TW _ _)
  exists u,rv;rcases S.par y (uN hp) with k|k
  ·exact .inl [k:sE aa hp hu k]
  ·erw[BT (n:=#[0,s]+1) k,c,e];refine .inr ⟨.inl k,c,e,?_⟩;have q:=x.cell y c e;rw[sJ aa hp hu (by show scope.names.lookup y≠_;rw[k];decide)] at q
   exact q
 ·exact O.hok.fresh (UW (x.above y c (vI h)))
 ·unfold Kq;show _=↑N;rw[uJ,u9,TL];omega
def AJ {M:Gi}{A:om}{E:o7->o9->Prop}{s₀ s:o9}{m Z:Str->ot o7}{env:Env}(f:Str×o7->PUnit->Sem (ForInStep PUnit))(hf:∀n v u,f (n,v) u=(do hV env n v;pure (.yield ⟨⟩)))(O:env.scope.kind= .function)
  (n:Str) (v:o7) (r:oq (Str×o7)) (Q:PUnit->o9->Prop) (x:GO s₀ env.locals m env.cells Z s) (hl:env.kindOf n=u_ .local)
  (aa:∀x∈r,env.kindOf x.1=u_ .local∨(env.kindOf x.1=u_ .cell/\(env.cells.lookup x.1).isSome=v_))
  (h:∀s',GO s₀ env.locals (VC env.kindOf ((n,v)::r) m) env.cells (VA env.kindOf ((n,v)::r) Z) s'->0<s'.toks->Q ⟨⟩ s'):V2 M A (VN ((n,v)::r) ⟨⟩ f) Q E s:=by
 rw[Uo,hf];refine A7 (A7 (FD hl x.toInCall.ns (λh' ac U=>uF ?_) (by rw[O];rfl)))
 have x1:GO s₀ env.locals (λy=>if y=n then u_ v else m y) env.cells Z {s with heap:=h',toks:=s.toks+1}:=by
  exists ⟨?_,ac,λb o e=>?_,x.toInCall.fresh⟩,λk c hc=>?_,x.apart,x.above
  ·erw[x.toInCall.same,h₁,tk,rfl];exact[h':0]
  ·have:=x.toInCall.keep b o e;exact U.extBut b o (v7 (Vf (uK e) x.toInCall.fresh)) (x.toInCall.keep b o e)
  ·exact(x.cell k c hc).sameBut U (U4 (x.above k c (mem_of_lookup hc)))
 refine vm (n:=1) (tO (uY _)) (wpAny_bindParams f hf O r _ _ _ _ x1 aa λs' y h1=>h s' ?_ h1);unfold VC VA;rw[A6 hl,A6 hl];exact y
def Ej {M:Gi}{A:om}{E:o7->o9->Prop}{s:o9}{scope:Vl}{globals:o6}{binds:oq (Str×o7)}{qual:Str}{func:ot o6}{O:o7}{builtins:o6}{Q:Env->o9->Prop}
  (Z:scope.kind= .function)
  (aa:∀x∈binds,scope.names.lookup x.1=u_ .local∨(scope.names.lookup x.1=u_ .cell/\((Gh (#[0,s]+1) scope.names []).lookup x.1).isSome=v_))
  (htk:0<s.toks∨∃n v r,binds=(n,v)::r/\scope.names.lookup n=u_ .local)
  (hq:∀en,en=newEnv scope #[0,s] globals (Gh (#[0,s]+1) scope.names []) qual func O U_ builtins->
   ∀s',GO s en.locals (VC en.kindOf binds λ_=>U_) en.cells (VA en.kindOf binds λ_=>U_) s'->0<s'.toks->Q en s'):
  V2 M A (Tf scope globals [] binds qual func O U_ builtins) Q E s:=by
 rcases htk with htk|⟨n,v,r,rfl,hl⟩
 ·exact vm (n:=1) htk (wpAny_newFunctionEnv_cells Z aa λenv he s' x h1=>hq env he s' x h1)
 ·simp![Tf,UG,UH,if_false];refine A7 (wpAny_alloc ?_);refine A7 (wpAny_layCells _ (λname kind cells=>by cases ac:kind==VZ<;>simp[ac]) _ _ _ _ ?_)
  have U:=cellsFrom_ok scope.names (s.heap.push {cls:= .type "frame",data:= .dict #[]}) (#[0,s]+1) [] [λ_ _ hm=>(nomatch hm):Ru] (by rw[vo];exact uA _);rw[vo] at U;rw[show({s with heap:=s.heap.push {cls:= .type "frame",data:= .dict #[]}}:o9).heap.objs.size=#[0,s]+1 from vo ..]
  exact A7 (AJ (s₀:=s) (env:=newEnv scope #[0,s] globals (Gh (#[0,s]+1) scope.names []) qual func O U_ builtins)
   _ (λ_ _ _=>rfl) Z n v r _
   ⟨⟨⟨_,_,by rfl⟩,(Heap.Ns.new s.heap (.type "frame")).keeps (Fm _ _),λb o e=>Fm _ _ b o (ud _ e),uA _⟩,
    λm c hc=>(U.empty m c (mem_of_lookup hc)).1,U.apart,λn c hm=>(U.empty n c hm).2⟩
   hl (λy hy=>aa y (uj _ hy)) λs' x h1=>uF (hq _ rfl s' x h1))
def Abk {CX:CXT}{P:oh}{w:oj}{K:o0}{mg:Str->ot o7}{base:og}{k:Nat}{f:o6}{name qual:Str}{O:Arguments}{U:oq Stmt}{scope:Vl}{dV kV doc pm cdv ct oc:o7}{an od:ot o6}
  {osl:Array (ot o7)}{N ps:oq Str}{sp:Sp} (lk:K.lookup f=u_ ⟨oc,od,.func (PySem.W.fnOf name qual O U scope dV kV doc pm an cdv ct),osl⟩) (ae:PySem.W.codeIn K cdv qual=v_) (S:qt N ps scope)
  (len:∀vs H Q E,sp vs H Q E->↑vs=↑ps)
  (Z:∀(A:om) (outer:oq Env) (s:o9) (H:Hp) (vs:oq V) (Q:VK) (E:XK),mw k (A.deeper (V8 qual scope #[0,s] f cdv))->sp vs H Q E->
   ∃t,PSs (cxOf CX P w K mg base N qual scope f cdv A outer s H E) U t/\t {nx:=λ_ H'=>Q .non H',rt:=Q} (Kq N vs) H):
  FnOk P w K mg base CX (k+1) f (PySem.W.fnOf name qual O U scope dV kV doc pm an cdv ct) ps sp:=by
 exists len,λA outer s H args us vs Q E hr e0 hb r ac htk=>?_;have hl:=len _ _ _ _ ac;have KX:K.In s.heap:=e0.mod.kin.keeps λb o e=>(e0.bs b o e).1;have af:s.heap.NoLimit:=e0.mod.nolimit.keeps λb o e=>(e0.bs b o e).1;have aa:∀y∈ps.zip us,scope.names.lookup y.1=u_ .local∨(scope.names.lookup y.1=u_ .cell/\((Gh (#[0,s]+1) scope.names []).lookup y.1).isSome=v_):=λ⟨n,v⟩ hy=>by
  rcases S.par n (TH hy).1 with q|q
  ·exact .inl q
  ·exact .inr [q:PySem.W.cellsFrom_some _ _ _ (.inl q)]
 have ad:0<s.toks∨∃n v r,ps.zip us=(n,v)::r/\scope.names.lookup n=u_ .local:=by
  rcases htk with h|⟨y,q,e,hy⟩
  ·exact .inl h
  ·have:↑us=↑ps:=by rwa[<-↑r]
   subst e
   match us,this with
   |u::us',_=>exact .inr ⟨y,u,q.zip us',1,hy⟩
 refine codeAny_call_function hr.depth (KX _ _ lk) rfl S.co S.gen rfl (PySem.W.codeRec_of KX ae) (hb _ _ _ _ ?_);refine Ej S.kind aa ad λenv he s1 x ag=>?_;subst he;exists af.keeps x.toInCall.keep,codeAny_func ?_;erw[Z A outer s H vs Q E (hr.deeper _) ac,t,ht,hq];have I:Inv (cxOf CX P w K mg base N qual scope f cdv A outer s H E) [] (Kq N vs) H s1:=EH S hr.hd e0 hl r x ag;refine vt (ht [] s1 (Kq N vs) H _ I hq) (λfl s' hs=>?_) λe s' hs=>hs;have fin:∀{σ':St}{H':Hp}{v:V}{u:o7},Inv (cxOf CX P w K mg base N qual scope f cdv A outer s H E) [] σ' H' s'->ik v u->Q v H'->CE outer P w H s Q u s':=
  λ{σ' H' v u} J rv q=>⟨v,H',J.os,J.bare,J.tk,J.base,J.hok,rv,q⟩
 cases fl with
 |ret u=>
  erw[hs,v,σ',H',J,rv,q];exact fin J rv q
 |next=>
  erw[hs,σ',H',J,q];exact fin (v:=V.non) (u:=VL) J rfl q
 |brk=>
  erw[hs,_,_,_,q];exact Vk q
 |cont=>
  erw[hs,_,_,_,q];exact Vk q
section
variable {X:Cx}{x:Str}{p pos:Pos}{e:Expr}{es:oq Expr}{t:TA}{id T:String}{r:oq V->Hp->VK->Prop}
nonrec def tCB (r:oq V->Hp->VK->Prop)(t:TA):TE:=λσ H Q=>t σ H λvs H1=>r vs H1 Q
def qD (Z:jg X (.builtin id) r)(hg:Gl X x)(hm:X.mg x=U_)(hv:Gy x=u_ (.builtin id))(ha:PA X (e::es) t)(hn:x≠"__name__")(O:(x==("__debug__":Str))=V1)
  (he:V6 (e::es) X.env=(V1,eval e X.env)::V6 es X.env) (U:(Vd pos (V6 es X.env)).any (·.1)=V1):PE X (.Call (.Name x p) (e::es) [] pos) (tCB r t):=by
 exists 2,Q,I,h;refine UF (wJ I hg hm hv ?_ hn O);exact pI (thn (ha pos ou s σ H _ I h) λus s1 ⟨vs,H1,I1,r1,q1⟩=>Z ou s1 σ H1 vs us Q I1 r1 q1) he U
def qU (Z:jg X (.type T) r)(hg:Gl X x)(hm:X.mg x=U_)(hv:Gy x=u_ (.type T))(ha:PA X (e::es) t)(hn:x≠"__name__")(O:(x==("__debug__":Str))=V1)
  (he:V6 (e::es) X.env=(V1,eval e X.env)::V6 es X.env) (U:(Vd pos (V6 es X.env)).any (·.1)=V1):PE X (.Call (.Name x p) (e::es) [] pos) (tCB r t):=by
 exists 2,Q,I,h;refine UF (wJ I hg hm hv ?_ hn O);exact vD (thn (ha pos ou s σ H _ I h) λus s1 ⟨vs,H1,I1,r1,q1⟩=>Z ou s1 σ H1 vs us Q I1 r1 q1) he U
end
end L2
namespace HT
open PySem PyProof.Rows
section
variable {prog:oh}{w:oj}{A:om}{E:o7->o9->Prop}{s:o9}
def cat_tup {t b:o6}{vs ws:oq o7}{Q:o7->o9->Prop}(ht:Gr s.heap t vs.toArray)(hb:Gr s.heap b ws.toArray)(hv:vs≠ [])
  (h1:ws= []->Q (.ref t) s) (h2:ws≠ []->Q (.ref #[0,s]) {s with heap:=s.heap.push {cls:= .type "tuple",data:= .seq (vs++ws).toArray}})
  (hsz:↑vs+↑ws<=V5):V2 #[w,w] A (Vy .Add (.ref t) (.ref b)) Q E s:=by
 erw[id ht,[cls,dd,data,sl],ho,hc,n,hd];erw[id hb,[ae,U,ad,Z],O,aa,n2,ac];simp only at hc hd aa ac;subst hc hd aa ac;have e:vs.toArray++ws.toArray=(vs++ws).toArray:=by simp
 by_cases hw:ws= []
 ·exact Tb [_:ho:1] [_:O:1] T8 T7 PySem.F.slot_tuple_add UI (UB _ _)
   (tuple_addW1 t b vs.toArray ws.toArray n n2 dd U sl Z (by simpa using hv) (by simp[hw])) [ho:O:h1 hw]
 ·refine Tb [_:ho:1] [_:O:1] T8 T7 PySem.F.slot_tuple_add UI (UB _ _)
   (tuple_addW2 t b vs.toArray ws.toArray n n2 dd U sl Z (by simpa using hv) (by simpa using hw) (by rwa[ur,ur])) [ho:O:?_]
  rw[e];exact h2 hw
nonrec def sIx (n d:Nat):ot Int->Nat
 |none=>d
 |some v=>if v<0 then(v+(n:Int)).toNat else min v.toNat n
def sIx_none (n d:Nat):sIx n d U_=d:=rfl
def sIx_nat (n d k:Nat):sIx n d (u_ (k:Int))=min k n:=by
 show(if(k:Int)<0 then((k:Int)+(n:Int)).toNat else min (k:Int).toNat n)=min k n
 rw[A4 (),tI]
def Aac (n d:Nat)(hd:d<=n)(o:ot Int):sIx n d o<=n:=by
 cases o with
 |none=>exact hd
 |some v=>
  show(if v<0 then(v+(n:Int)).toNat else min v.toNat n)<=n
  by_cases O:v<0
  ·rw[A6 O];omega
  ·rw[A4 O];exact Nat.min_le_right _ _
def Ik (v:Int)(n d:Nat):(if v<0 then max (v+(n:Int)) 0 else min v (n:Int))=((sIx n d (u_ v):Nat):Int):=by
 show(if v<0 then max (v+(n:Int)) 0 else min v (n:Int))=(((if v<0 then(v+(n:Int)).toNat else min v.toNat n):Nat):Int)
 by_cases O:v<0
 ·simp![A6 O];omega
 ·simp![A4 O];omega
def CK (lo hi:ot Int)(n:Nat):T4 lo hi 1 (n:Int)=(((sIx n 0 lo:Nat):Int),((sIx n n hi:Nat):Int)):=by
 have h1:¬((1:Int)<0):=by omega
 unfold T4;simp![h1,if_false];refine Prod.ext ?_ ?_
 ·cases lo with
  |none=>rfl
  |some v=>exact Ik v n 0
 ·cases hi with
  |none=>rfl
  |some v=>exact Ik v n n
def Cp (i j:Nat):Hm (i:Int) (j:Int) 1=j-i:=by
 unfold Hm;have h1:(1:Int)>0:=by omega
 simp![h1,if_true,Int.ediv_one];split<;>omega
def WS {v:o7}{o:ot Int}{Q:ot Int->o9->Prop}(p:VH v o)(h:Q o s):V2 #[w,w] A (pT v) Q E s:=by
 cases p with
 |none=>exact RX h
 |int i t=>exact slicePart_int h
def jU {sl:o6}{Z vu:o7}{lo hi:ot Int}{n:Nat}{Q:Int×Int×Nat->o9->Prop}(hs:s.heap.IsSliceOf sl Z vu .none)(pl:VH Z lo)(pu:VH vu hi)
  (h:Q (((sIx n 0 lo:Nat):Int),1,sIx n n hi-sIx n 0 lo) s):V2 #[w,w] A (FJ (.ref sl) (pure (n:Int))) Q E s:=by
 erw[id hs,os,O,aa,U];unfold FJ R_;refine A7 (A7 (vj O U (x:=Z) rfl (A7 (vj O U (x:=vu) rfl (A7 (vj O U (x:= .none) rfl (uF ?_)))))));refine A7 (RX ?_);show V2 _ _ (if((1:Int)==0)=v_ then _ else _) _ _ s
 rw[A4 ()]
 refine A7 (WS pl (A7 (WS pu (A7 (uF ?_)))));show V2 _ _ (match T4 lo hi 1 (n:Int) with|(lo,hi)=>pure (lo,(1:Int),Hm lo hi 1)) _ _ s
 rw[CK lo hi n];show V2 _ _ (pure (((sIx n 0 lo:Nat):Int),(1:Int),Hm ((sIx n 0 lo:Nat):Int) ((sIx n n hi:Nat):Int) 1)) _ _ s;rw[Cp];exact uF h
def KD (xs:Array o7)(i k:Nat):((Va k).filterMap λ(m:Nat)=>xs[((i:Int)+(m:Int)*1).toNat]?).toArray=((xs.toList.drop i).take k).toArray:=by
 have e:(λ(m:Nat)=>xs[((i:Int)+(m:Int)*1).toNat]?)=λm=>xs[i+m]? :=by
  funext m
  have:((i:Int)+(m:Int)*1).toNat=i+m:=by omega
  rw[this]
 rw[e];have:=pick_run xs i k;rw[List.filterMap_map] at this;have e2:((λx=>xs[x]?)∘λx=>i+x)=λm=>xs[i+m]? :=rfl;rw[e2] at this;rw[this]
def getItem_tuple_cut {t sl:o6}{items:Array o7}{vl vu:o7}{lo hi:ot Int}{Q:o7->o9->Prop}(U:Gr s.heap t items)(hs:s.heap.IsSliceOf sl vl vu .none)(pl:VH vl lo)(pu:VH vu hi)
  (hw:¬(sIx items.size 0 lo=0/\sIx items.size items.size hi=items.size))
  (h:Q (.ref #[0,s]) {s with heap:=s.heap.push {cls:= .type "tuple",data:= .seq ((items.toList.drop (sIx items.size 0 lo)).take (sIx items.size items.size hi-sIx items.size 0 lo)).toArray}})
  (hsz:items.size<=V5):V2 #[w,w] A (VQ (.ref t) (.ref sl)) Q E s:=by
 have O:sizeOk (.seq ((items.toList.drop (sIx items.size 0 lo)).take (sIx items.size items.size hi-sIx items.size 0 lo)).toArray):=by
  show((items.toList.drop (sIx items.size 0 lo)).take (sIx items.size items.size hi-sIx items.size 0 lo)).toArray.size<=V5;rw[ur,vy,vE,vq];omega
 have hj:sIx items.size items.size hi<=items.size:=Aac _ _ (uA _) hi;erw[id hs,os,Z,aa,ae];have ac:s.TypeIs (.ref sl) "slice":=[os:Z:aa];unfold VQ
 try with_reducible refine VJ ?_
 first|refine A7 (uF ?_)|skip
 refine A7 (rp U.typeIs () ?_)
 refine A7 (vk (name:=gY "__getitem__") U.typeIs vJ
  (vF vJ U.typeIs rO ?_ (RM _ _)))
 show V2 _ _ (RF (.ref t)>>=_) _ _ s;refine A7 (Ra U ?_);refine A7 (g_ ac ?_);rw[A6 ()]
 refine A7 (jU hs pl pu ?_);have ad:¬((((sIx items.size 0 lo:Nat):Int)==0&&(1:Int)==1&&(sIx items.size items.size hi-sIx items.size 0 lo)==items.size)=v_):=by
  intro q;rw[uG,uG] at q;have q1:((sIx items.size 0 lo:Nat):Int)=0:=eq_of_beq q.1.1;have q2:sIx items.size items.size hi-sIx items.size 0 lo=items.size:=eq_of_beq q.2;exact hw [():()]
 show V2 _ _ (if(((sIx items.size 0 lo:Nat):Int)==0&&(1:Int)==1&&(sIx items.size items.size hi-sIx items.size 0 lo)==items.size)=v_ then _ else _) _ _ s
 rw[A4 ad,KD]
 first
  |exact A7 (m:=Hk _) (vz (uF ⟨0,uF h⟩) O)
  |exact A7 (m:=Hk _) (vz (A7 (uF (uF ⟨0,uF h⟩))) O)
  |exact A7 (A7 (m:=Hk _) (vz (uF (uF ⟨0,uF h⟩)) O))
  |exact A7 (A7 (m:=Hk _) (vz (uF ⟨0,uF h⟩) O))
end
end HT
namespace L2
open PySem PySem.Spec PyProof.Rows
noncomputable abbrev TO:=St->Hp->(ot Int->Hp->Prop)->Prop
nonrec def PO (X:Cx)(e:ot Expr)(t:TO):Prop:=
 ∀(ou:oq (o6×Obj)) (s:o9) (σ:St) (H:Hp) (Q:ot Int->Hp->Prop),#[I]->t σ H Q->
  V2 #[X,X] X.A (evalPart e X.env) (λu s'=>∃o H',Inv X ou σ H' s'/\VH u o/\Q o H') X.xe s
nonrec def MY:TO:=λ_ H Q=>Q U_ H
inductive AbN (Q:(Option Int->Hp->Prop))(x:V)(H1:Hp):Prop
 |mk (i:_)(_:x= .int i)(_:Q (u_ i) H1)
nonrec def Ace (t:TE):TO:=λσ H Q=>t σ H λx H1=>AbN Q x H1
def CB {ns:oq Int}:∀{us:oq o7},iq (ns.map V.int) us->gZ us ns:=by
 induction ns with
 |nil=>intro us r;rw[Ud] at r;cases r;exact .nil
 |cons n ns O=>
  intro us r;rw[uD] at r;cases r with
  |cons U Z=>
   erw[U,t,e];subst e;exact .cons n t (O Z)
section
variable {X:Cx}{e:Expr}{te:TE}{lo hi:ot Expr}{tl th:TO}{pos p2:Pos}
def Kb:PO X U_ MY:=by
 exists 2,Q,I,h;rw[FO];exact uF ⟨U_,H,I,.none,h⟩
def zE (h:PE X e te):PO X (u_ e) (Ace te):=by
 exists 2,Q,I,O;rw[evalPart_some];refine thn (h ou s σ H _ I O) λu s1 zq=>?_;erw[zq,x,H1,U,Z,q1];erw[q1,i,rfl,q];erw[Z,t,rfl];exact⟨u_ i,H1,U,.int i t,q⟩
nonrec def SlR (X:Cx)(r:V->ot Int->ot Int->Hp->VK->Prop):Prop:=
 ∀(ou:oq (o6×Obj)) (s:o9) (σ:St) (H:Hp) (x:V) (v vl vu:o7) (lo hi:ot Int) (sl:o6) (Q:VK),#[I]->ik x v->s.heap.IsSliceOf sl vl vu .none->VH vl lo->VH vu hi->r x lo hi H Q->
  ∃T id,Hl (.type T) "__getitem__"=pure (u_ (.builtin id))/\s.TypeIs v T/\V2 #[X,X] X.A (VQ v (.ref sl)) (EP X ou σ Q) X.xe s
def SlR.or {r r':V->ot Int->ot Int->Hp->VK->Prop}(h:SlR X r)(h':SlR X r'):SlR X (λx lo hi H Q=>r x lo hi H Q∨r' x lo hi H Q):=by
 exists 2,x,v,O,U,lo,hi,sl,Q,I,Z,hs,pl,pu,q;rcases q with q|q
 ·exact h ou s σ H x v O U lo hi sl Q I Z hs pl pu q
 ·exact h' ou s σ H x v O U lo hi sl Q I Z hs pl pu q
nonrec def tSl (r:V->ot Int->ot Int->Hp->VK->Prop)(te:TE)(tl th:TO):TE:=λσ H Q=>te σ H λx H1=>tl σ H1 λl H2=>th σ H2 λu H3=>r x l u H3 Q
def Xz {r:V->ot Int->ot Int->Hp->VK->Prop}(hr:SlR X r)(he:PE X e te)(hl:PO X lo tl)(hu:PO X hi th):PE X (.Subscript e (.Slice lo hi U_ p2) pos) (tSl r te tl th):=by
 exists 2,Q,I,h;refine tU (thn (he ou s σ H _ I h) λv s1 zq=>?_);erw[zq,x,H1,I1,r1,q1];refine wpAny_Slice (thn (hl ou s1 σ H1 _ I1 q1) λU s2 ⟨l,H2,I2,pl,q2⟩=>thn (hu ou s2 σ H2 _ I2 q2) λZ O zq=>?_);erw[zq,u,H3,I3,pu,q3];rw[FO];refine uF ?_;have I4:Inv X ou σ H3 {O with heap:=O.heap.push {cls:= .type "slice",data:= .fields #[U,Z,.none]}}:=I3.kept (t':=O.toks) λb ob q=>ud _ q
 erw[hr ou {O with heap:=O.heap.push {cls:= .type "slice",data:= .fields #[U,Z,.none]}} σ H3 x v U Z l u #[0,O] Q I4 r1 (pR ..) pl pu q3,T,id,hT,ht,hg]
 show V2 #[X,X] X.A (Ts e (.Slice lo hi U_ p2) v (.ref #[0,O])) (EP X ou σ Q) X.xe {O with heap:=O.heap.push {cls:= .type "slice",data:= .fields #[U,Z,.none]}}
 exact tR (ops:= [.ref #[0,O],v]) ht hT hg #[w]
nonrec def sU (xs:oq V)(lo hi:ot Int):oq V:=(xs.drop (HT.sIx ↑xs 0 lo)).take (HT.sIx ↑xs ↑xs hi-HT.sIx ↑xs 0 lo)
def wf (xs:oq V)(lo hi:ot Int):↑(sU xs lo hi)<=↑xs:=by
 unfold sU;rw[vy,vE];omega
inductive AdV (K:PySem.W.Frag)(x:V)(lo:Option Int)(hi:Option Int)(H:Hp)(Q:VK):Prop
 |mk (a:_)(xs:_)(_:x= .ref a)(_:SqT K H a xs)(_:¬(HT.sIx ↑xs 0 lo=0/\HT.sIx ↑xs ↑xs hi=↑xs))(_:∀p,H p=U_->Q (.ref p) (upd H p (.tup (sU xs lo hi))))
def S4:SlR X (AdV X.K):=by
 exists 2,x,v,vl,vu,lo,hi,sl,Q,I,Z,hs,pl,pu,h;erw[h,a,xs,rfl,hx,hw,q];cases Z;erw[I.tuple hx,its,r,U,hz];have O:its.toArray.size=↑xs:=by rw[ur];exact r.length.symm
 exists "tuple",_,PyProof.Rows.slot_tuple_getitem.lookup,U.typeIs;refine HT.getItem_tuple_cut U hs pl pu (by rwa[O]) ?_ (by rwa[O])
 rw[O];exists .ref #[0,s],_,I.laid (t':=s.toks) (o:= .tup (sU xs lo hi)) (λb ob q=>ud _ q) (uA _) ?_,1,q _ (I.hok.fresh (uA _));exact⟨vg (wf xs lo hi) hz,_,(r.drop (HT.sIx ↑xs 0 lo)).take (HT.sIx ↑xs ↑xs hi-HT.sIx ↑xs 0 lo),GC _ _⟩
inductive Acz (K:PySem.W.Frag)(x:V)(y:V)(H:Hp)(Q:VK):Prop
 |mk (a:_)(b:_)(xs:_)(ys:_)(_:x= .ref a)(_:y= .ref b)(_:SqT K H a xs)(_:SqT K H b ys)(_:xs≠ [])(_:↑xs+↑ys<=V5)(_:(ys= []->Q (.ref a) H))(_:(ys≠ []->∀p,H p=U_->Q (.ref p) (upd H p (.tup (xs++ys)))))
variable {xs:oq V}{us:oq o7}
def iq.nil_iff (r:iq xs us):us= []↔xs= []:=by
 cases r with
 |nil=>simp
 |cons _ _=>simp
def Of:OpR X (Vy .Add) (Acz X.K):=by
 exists 2,x,y,v,u,Q,I,rx,ry,h;erw[h,a,b,xs,ys,rfl,rfl,ha,hb,hx,hz,q1,q2];cases rx;cases ry;erw[I.tuple ha,its,U,p1,_];erw[I.tuple hb,Z,O,p2,_];refine HT.cat_tup p1 p2 (λz=>hx (U.nil_iff.mp z)) (λz=>⟨.ref a,H,I,1,q1 (O.nil_iff.mp z)⟩) (λz=>?_) (by rwa[<-↑U,<-↑O])
 exists .ref #[0,s],_,I.laid (t':=s.toks) (o:= .tup (xs++ys)) (λb ob q=>ud _ q) (uA _) ?_,1,q2 (λw=>z (O.nil_iff.mpr w)) _ (I.hok.fresh (uA _));exact⟨by rwa[uJ],_,U.append O,GC _ _⟩
end
nonrec def ixN (n:Nat)(i:Int):ot Nat:=if 0<=i then(if i<n then u_ i.toNat else U_) else if-(n:Int)<=i then u_ (i+n).toNat else U_
nonrec def atI {α:Type}(xs:oq α)(i:Int):ot α:=(ixN ↑xs i).bind λj=>xs[j]?
variable {n j:Nat}
def Ax {i:Int}(h:ixN n i=u_ j):GN i n=u_ j/\j<n/\ -(n:Int)<=i/\i<n:=by
 unfold ixN at h;by_cases h0:0<=i
 ·rw[A6 h0] at h;by_cases h1:i<n
  ·rw[A6 h1] at h;have e:i.toNat=j:=uM h;exact⟨by rw[T5 h0 h1,e],(),(),h1⟩
  ·rw[A4 h1] at h;cases h
 ·rw[A4 h0] at h;by_cases h1: -(n:Int)<=i
  ·rw[A6 h1] at h;have e:(i+n).toNat=j:=uM h;exact⟨by rw[HV () h1,e],(),h1,()⟩
  ·rw[A4 h1] at h;cases h
def kn {α:Type}{xs:oq α}{i:Int}{v:α}(h:atI xs i=u_ v):∃j,GN i ↑xs=u_ j/\xs[j]? =u_ v/\j<↑xs/\ -(↑xs:Int)<=i/\i<↑xs:=by
 unfold atI at h;cases e:ixN ↑xs i with
 |none=>rw[e] at h;cases h
 |some j=>
  rw[e] at h;erw[Ax e,h1,h2,h3,h4];exact⟨j,h1,h,h2,h3,h4⟩
def qC {α:Type}{xs:oq α}{v:α}(h:xs[j]? =u_ v):atI xs (j:Int)=u_ v:=by
 have O:j<↑xs:=(Ag.mp h).1;have e:ixN ↑xs (j:Int)=u_ j:=by
  unfold ixN;rw[A6 (),A6 ()];simp
 unfold atI;rw[e];exact h
def kZ {α:Type}(xs:oq α)(v:α):atI (xs++ [v]) (-1)=u_ v:=by
 have O:↑(xs++ [v])=↑xs+1:=by simp
 have e:ixN ↑(xs++ [v]) (-1)=u_ ↑xs:=by
  unfold ixN;rw[O,A4 (),A6 ()]
  congr 1
  omega
 unfold atI;rw[e];show(xs++ [v])[↑xs]? =u_ v;simp
nonrec def PN (b:Expr):Prop:=∀o i,h_ b V1 o i=tD [o,i] (VQ o i)
nonrec def IxR (X:Cx)(r:R2):Prop:=
 ∀(value slice:Expr) (ou:oq (o6×Obj)) (s:o9) (σ:St) (H:Hp) (x y:V) (v u:o7) (Q:VK),#[I]->ik x v->ik y u->r x y H Q->
  h_ slice V1 v u=tD [v,u] (VQ v u)->V2 #[X,X] X.A (Ts value slice v u) (EP X ou σ Q) X.xe s
nonrec def MtR (X:Cx)(id:String)(r:V->oq V->Hp->VK->Prop):Prop:=
 ∀(ou:oq (o6×Obj)) (s:o9) (σ:St) (H:Hp) (x:V) (xs:oq V) (v:o7) (us:oq o7) (Q:VK),#[I]->ik x v->iq xs us->r x xs H Q->
  V2 #[X,X] X.A (call (.builtin id) (v::us)) (EP X ou σ Q) X.xe s
section
variable {X:Cx}{a b:Expr}{ta tb:TE}{pos:Pos}
def IxR.or {r r':R2}(h:IxR X r)(h':IxR X r'):IxR X (λx y H Q=>r x y H Q∨r' x y H Q):=by
 intro value slice ou s σ H x y v u Q I O U q Z;rcases q with q|q
 ·exact h value slice ou s σ H x y v u Q I O U q Z
 ·exact h' value slice ou s σ H x y v u Q I O U q Z
def qF {r:R2}(O:IxR X r)(ha:PE X a ta)(U:PE X b tb)(Z:PN b):PE X (.Subscript a b pos) (tOp r ta tb):=by
 exists 2,Q,I,h;exact tU (Ac5 ha U I h λv u s2 x y H2 I2 rx ry q=>O a b ou s2 σ H2 x y v u Q I2 rx ry q (Z _ _))
inductive Acx (K:PySem.W.Frag)(x:V)(y:V)(H:Hp)(Q:VK):Prop
 |mk (p:_)(xs:_)(i:_)(v:_)(_:x= .ref p)(_:y= .int i)(_:SqL K H p xs)(_:atI xs i=u_ v)(_:Q v H)
inductive NS (K:PySem.W.Frag)(x:V)(y:V)(H:Hp)(Q:VK):Prop
 |mk (p:_)(xs:_)(i:_)(v:_)(_:x= .ref p)(_:y= .int i)(_:SqT K H p xs)(_:atI xs i=u_ v)(_:Q v H)
inductive Adu (x:V)(y:V)(H:Hp)(Q:VK):Prop
 |mk (z:_)(i:_)(c:_)(_:x= .str z)(_:y= .int i)(_:↑z<=V5)(_:atI z.cps.toList i=u_ c)(_:Q (.str ⟨#[c]⟩) H)
def Yn:IxR X (Acx X.K):=by
 intro value slice ou s σ H x y v u Q I rx ry h Z;erw[h,p,xs,i,z,rfl,rfl,hq,he,q];cases rx;erw[ry,t,rfl];erw[I.list hq,its,r,pl,hz];erw[kn he,j,h1,h2,h3,h4,h5];erw[r.get h2,w,ew,O];have hl:=↑r;have hn:=Zf;have fin:EP X ou σ Q w s:=⟨z,H,I,O,q⟩;by_cases h0:0<=i
 ·have U:i.toNat=j:=by
   rw[T5 h0 h5] at h1;exact uM h1
  exact item_listR pl.isList h0 () (by rw[U];simpa using ew) fin Z
 ·have U:(i+(its.toArray.size:Int)).toNat=j:=by
   rw[HV () h4] at h1
   rw[ur,<-hl];exact uM h1
  exact Rt (x:=w) pl.isList.typeIs slot_list_getitem.lookup
   (wpAny_getItem_list_neg (Q:=λr s'=>r=w/\EP X ou σ Q r s') pl.isList () (by rw[ur]<;>omega) () (by rw[U];simpa using ew) [1:fin]) Z
def qA:IxR X (NS X.K):=by
 intro value slice ou s σ H x y v u Q I U Z h hs;erw[h,p,xs,i,z,rfl,rfl,hq,he,q];cases U;erw[Z,t,rfl];erw[I.tuple hq,its,r,pl,hz];erw[kn he,j,h1,h2,h3,h4,h5];erw[r.get h2,w,ew,O];have hl:=↑r;have hn:=Zf;have fin:EP X ou σ Q w s:=⟨z,H,I,O,q⟩;exact Rt (x:=w) pl.typeIs slot_tuple_getitem.lookup
  (getItem_tuple (j:=j) (Q:=λr s'=>r=w/\EP X ou σ Q r s') pl () () (by rwa[ur,<-hl]) (by simpa using ew) [1:fin]) hs
def Mw:IxR X Adu:=by
 intro value slice ou s σ H x y v u Q I O U h Z;erw[h,z,i,c,rfl,rfl,hz,he,q];erw[O,t,rfl];erw[U,t',rfl];erw[kn he,j,h1,h2,h3,h4,h5];have hl:↑z.cps.toList=↑z:=by simp[VS]
 rw[hl] at h1 h4 h5;have hn:=Zf;exact tR (vW s z t) slot_str_getitem.lookup (getItem_str (c:=c) (by
  have e1:decide (i< -(2^63:Int))=false:=ug ()
  have e2:decide (i≥2^63)=false:=ug ()
  rw[e1,e2,Bool.or_false]) (by rw[h1];simpa using h2) ⟨.str ⟨#[c]⟩,H,I.tok _,⟨0⟩,q⟩) Z
nonrec def rIx (K:o0):R2:=λx y H Q=>Acx K x y H Q∨NS K x y H Q∨Adu x y H Q
def Xs:IxR X (rIx X.K):=Yn.or (qA.or Mw)
def Cv (its:oq o7)(n j:Nat)(u:o7):GG (·.setIfInBounds j u) {cls:= .type "list",data:= .seq its.toArray n}={cls:= .type "list",data:= .seq (its.set j u).toArray n}:=by
 simp[GG]
def Inv.lst {ou:oq (o6×Obj)}{σ:St}{H:Hp}{s:o9}{p:o6}{xs:oq V}(I:#[I])(h:H p=u_ (.lst xs)):
  ∃(its:oq o7) (n:Nat),iq xs its/\s.heap.get? p=u_ {cls:= .type "list",data:= .seq its.toArray n}/\↑xs<=sizeLine:=by
 erw[I.hok p _ h,z,its,n,r,e];exact⟨its,n,r,e,z⟩
def Inv.lstUpd {ou:oq (o6×Obj)}{σ:St}{H:Hp}{s:o9}{p:o6}{xs ys:oq V}{its its':oq o7}{n O:Nat}{f:Obj->Obj}(I:#[I])(h:H p=u_ (.lst xs))
  (Z:s.heap.get? p=u_ {cls:= .type "list",data:= .seq its.toArray n}) (U:f {cls:= .type "list",data:= .seq its.toArray n}={cls:= .type "list",data:= .seq its'.toArray O}) (r:iq ys its') (hz:↑ys<=V5) (t:Nat) (ht:0<t:=by ac_rfl):
  Inv X ou σ (upd H p (.lst ys)) {s with heap:=s.heap.update p f,toks:=t}:=by
 have e:(s.heap.update p f).get? p=u_ {cls:= .type "list",data:= .seq its'.toArray O}:=by
  rw[Te f Z (by rw[U]<;>rfl),U]
 refine I.write (x:=p) (e:=p) (by rw[h];trivial) (.inl rfl) (λb u hb q=>(tG _ _ (vX hb)).trans q) [_:e] ?_
 exact⟨hz,its',O,r,e⟩
inductive Act (o:V)(i:V)(v:V)(H:Hp)(Q:(Hp->Prop)):Prop
 |mk (p:_)(xs:_)(k:_)(j:_)(_:o= .ref p)(_:i= .int k)(_:H p=u_ (.lst xs))(_:ixN ↑xs k=u_ j)(_:Q (upd H p (.lst (xs.set j v))))
def Ku:AdE X Act:=by
 exists 2,o,i,v,ov,iv,u,Q,I,ro,ri,rv,h;erw[h,p,xs,k,j,rfl,rfl,hp,hj,q];cases ro;erw[ri,t,rfl];erw[I.lst hp,its,n,r,O,hz];erw[Ax hj,h1,h2,h3,h4];have U:=↑r;have hn:=Zf;have I':Inv X ou σ (upd H p (.lst (xs.set j v))) {s with heap:=s.heap.update p (GG (·.setIfInBounds j u))}:=
  I.lstUpd hp O (Cv its n j u) (r.set rv j) (by rwa[List.length_set]) s.toks
 by_cases h0:0<=k
 ·have Z:k.toNat=j:=by
   rw[T5 h0 h4] at h1;exact uM h1
  exact PySem.W.ki_setAt O h0 () (by rwa[ur,<-U]) (by rw[Z];exact[_:I':q])
 ·have Z:(k+(its.toArray.size:Int)).toNat=j:=by
   rw[HV () h3] at h1
   rw[ur,<-U];exact uM h1
  exact PySem.W.ki_setBack O () (by rwa[ur,<-U]) () (by rw[Z];exact[_:I':q])
def nJ (lo hi:ot Int)(n:Nat):(Gb lo hi U_ n).1=((HT.sIx n 0 lo:Nat):Int)/\(Gb lo hi U_ n).2.1=((HT.sIx n n hi:Nat):Int)/\(Gb lo hi U_ n).2.2=1:=by
 exists ?_,?_,1
 ·cases lo with
  |none=>simp[Gb,HT.sIx]
  |some i=>
   simp![Gb,HT.sIx,Rh,show(1:Int)>0 by decide,if_true]
   by_cases h:i<0
   ·simp![h,if_true]<;>omega
   ·simp![h,if_false]<;>omega
 ·cases hi with
  |none=>simp[Gb,HT.sIx]
  |some i=>
   simp![Gb,HT.sIx,Rh,show(1:Int)>0 by decide,if_true]
   by_cases h:i<0
   ·simp![h,if_true]<;>omega
   ·simp![h,if_false]<;>omega
def kC (its:oq o7)(lo hi:ot Int):slicePick its.toArray lo hi U_=((its.drop (HT.sIx ↑its 0 lo)).take (HT.sIx ↑its ↑its hi-HT.sIx ↑its 0 lo)).toArray:=by
 erw[nJ lo hi its.toArray.size,h1,h2,h3];unfold slicePick;rw[h1,h2,h3];simp![sliceRange_one,pick_run,ur]<;>rfl
inductive AdW (K:PySem.W.Frag)(x:V)(lo:Option Int)(hi:Option Int)(H:Hp)(Q:VK):Prop
 |mk (a:_)(xs:_)(_:x= .ref a)(_:SqL K H a xs)(_:∀p,H p=U_->Q (.ref p) (upd H p (.lst (sU xs lo hi))))
def sX:SlR X (AdW X.K):=by
 exists 2,x,v,vl,vu,lo,hi,sl,Q,I,Z,hs,pl,pu,h;erw[h,a,xs,rfl,hx,q];cases Z;erw[I.list hx,its,r,U,hz];have O:=↑r;exists "list",_,slot_list_getitem.lookup,U.isList.typeIs;refine wpAny_getItem_list_slice U.isList hs pl pu .none (by simp) ?_ (by rw[ur]<;>omega)
 rw[kC,<-O];exists .ref #[0,s],_,I.laid (t':=s.toks) (o:= .lst (sU xs lo hi)) (λb ob q=>ud _ q) (uA _) ?_,1,q _ (I.hok.fresh (uA _));exact⟨vg (wf xs lo hi) hz,_,(0),(r.drop (HT.sIx ↑xs 0 lo)).take (HT.sIx ↑xs ↑xs hi-HT.sIx ↑xs 0 lo),uL _ rfl⟩
nonrec def zi:V->Bool
 | .non=>v_
 | .bl _=>v_
 | .int _=>v_
 | .str _=>v_
 |_=>V1
nonrec def eqV:V->V->Bool
 | .non,.non=>v_
 | .bl a,.bl b=>a==b
 | .bl a,.int b=>(if a then 1 else 0)==b
 | .int a,.bl b=>a==(if b then 1 else 0)
 | .int a,.int b=>a==b
 | .str a,.str b=>a==b
 |_,_=>V1
variable {A:om}{s:o9}{y x:V}{u:o7}
def Abl {v:o7}(U:ik y u)(O:ik x v)(fy:zi y=v_)(Z:zi x=v_):Vm A s u v (eqV y x):=by
 cases y with
 |non=>
  cases U;cases x with
  |non=>cases O;exact GX _
  |bl b=>cases O;exact pP b
  |int b=>erw[O,t,rfl];exact FN b t
  |str b=>erw[O,t,rfl];exact Rm b t
  |_=>exact A8 (show V1=v_ from Z) ub
 |bl a=>
  cases U;cases x with
  |non=>cases O;exact pG a
  |bl b=>cases O;exact pL a b
  |int b=>erw[O,t,rfl];exact pJ a b t
  |str b=>erw[O,t,rfl];exact pq a b t
  |_=>exact A8 (show V1=v_ from Z) ub
 |int a=>
  erw[U,t',rfl];cases x with
  |non=>cases O;exact Fc a t'
  |bl b=>cases O;exact pO a t' b
  |int b=>erw[O,t,rfl];exact T1 a t' b t
  |str b=>erw[O,t,rfl];exact UD a t' b t
  |_=>exact A8 (show V1=v_ from Z) ub
 |str a=>
  erw[U,t',rfl];cases x with
  |non=>cases O;exact Rp a t'
  |bl b=>cases O;exact pQ a t' b
  |int b=>erw[O,t,rfl];exact UE a t' b t
  |str b=>erw[O,t,rfl];exact tT a t' b t
  |_=>exact A8 (show V1=v_ from Z) ub
 |_=>exact A8 (show V1=v_ from fy) ub
nonrec def eqU (x:V)(u:o7):Bool:=match u with
 | .none=>eqV .non x
 | .bool b=>eqV (.bl b) x
 | .int i _=>eqV (.int i) x
 | .str z _=>eqV (.str z) x
 |_=>V1
def MI (r:ik y u)(f:zi y=v_):eqU x u=eqV y x:=by
 cases y with
 |non=>cases r;rfl
 |bl b=>cases r;rfl
 |int i=>erw[r,t,rfl];rfl
 |str z=>erw[r,t,rfl];rfl
 |_=>exact A8 (show V1=v_ from f) ub
def Zz {x:V}:∀{xs:oq V}{us:oq o7},iq xs us->xs.all zi=v_->us.any (eqU x)=xs.any λy=>eqV y x
 |_,_,.nil,_=>rfl
 |y::xs,u::us,.cons r t,f=>by
  rw[vM,uG] at f;rw[Ut,Ut,MI r f.1,Zz t f.2]
def Xk {A:om}{s:o9}{x:V}{v:o7}(U:ik x v)(Z:zi x=v_):∀{xs:oq V}{us:oq o7},iq xs us->xs.all zi=v_->∀u∈us,Vm A s u v (eqU x u)
 |_,_,.nil,_=>λu O=>by cases O
 |y::xs,u::us,.cons r t,f=>λu' O=>by
  rw[vM,uG] at f;rcases Aa.mp O with rfl|O
  ·rw[MI r f.1];exact Abl r U f.1 Z
  ·exact Xk U Z t f.2 u' O
nonrec def inV (x:V)(xs:oq V):Bool:=xs.any λy=>eqV y x
inductive rIn (K:PySem.W.Frag)(neg:Bool)(x:V)(y:V)(H:Hp)(Q:VK):Prop
 |mk (p:_)(xs:_)(_:y= .ref p)(_:(SqL K H p xs∨SqT K H p xs))(_:zi x=v_)(_:xs.all zi=v_)(_:Q (.bl (if neg then !inV x xs else inV x xs)) H)
def Q9:OpR X (Vc .In) (rIn X.K V1):=by
 exists 2,x,y,v,u,Q,I,Z,ry,h;erw[h,p,xs,rfl,O,fx,fs,q];cases ry;rcases O with O|O
 ·erw[I.list O,its,r,pl,hz];refine f_ (eqU x) pl.isList (λw U=>Xk Z fx r fs w (by simpa using U)) ⟨.bl _,H,I,1,?_⟩
  rw[show its.toArray.any (eqU x)=its.any (eqU x) by simp,Zz r fs]
  exact q
 ·erw[I.tuple O,its,r,pl,hz];refine RU (eqU x) pl (λw U=>Xk Z fx r fs w (by simpa using U)) ⟨.bl _,H,I,1,?_⟩
  rw[show its.toArray.any (eqU x)=its.any (eqU x) by simp,Zz r fs]
  exact q
def oA:OpR X (Vc .NotIn) (rIn X.K v_):=by
 exists 2,x,y,v,u,Q,I,Z,ry,h;erw[h,p,xs,rfl,O,fx,fs,q];cases ry;rcases O with O|O
 ·erw[I.list O,its,r,pl,hz];refine SeqAt.notIn_listAt (eqU x) pl.isList (λw U=>Xk Z fx r fs w (by simpa using U)) ⟨.bl _,H,I,1,?_⟩
  rw[show its.toArray.any (eqU x)=its.any (eqU x) by simp,Zz r fs]
  exact q
 ·erw[I.tuple O,its,r,pl,hz];refine SeqAt.notIn_tupleAt (eqU x) pl (λw U=>Xk Z fx r fs w (by simpa using U)) ⟨.bl _,H,I,1,?_⟩
  rw[show its.toArray.any (eqU x)=its.any (eqU x) by simp,Zz r fs]
  exact q
def oz:OpR X (Vc .NotIn) (λx y H Q=>∃i j,x= .str i/\y= .str j/\Q (.bl (!(!(GH j i 0 ↑j 1).isEmpty))) H):=by
 exists 2,x,y,v,u,Q,I,O,U,h;erw[h,i,j,rfl,rfl,q];erw[O,t,rfl];erw[U,t',rfl];exact notIn_str ⟨.bl _,H,I,1,q⟩
def qR:jg X (.builtin "len") (λxs H Q=>∃p ys,xs= [.ref p]/\(SqL X.K H p ys∨SqT X.K H p ys)/\Q (.int ↑ys) H):=by
 exists 2,xs,us,Q,I,r,h;erw[h,p,ys,rfl,U,q];erw[jZ r,u,rfl,Z];cases Z;have hn:=Zf;rcases U with U|U
 ·erw[I.list U,its,r',pl,hz];have O:=↑r';exact FG pl.isList (by simp![ur]<;>omega) ⟨.int ↑ys,H,I.tok _,⟨s.toks+1,by rw[ur,O]⟩,q⟩
 ·erw[I.tuple U,its,r',pl,hz];have O:=↑r';exact len_tuple pl (by simp![ur]<;>omega) ⟨.int ↑ys,H,I.tok _,⟨s.toks+1,by rw[ur,O]⟩,q⟩
def zZ:jg X (.builtin "len") (λxs H Q=>∃z,xs= [.str z]/\↑z<=V5/\Q (.int ↑z) H):=by
 exists 2,xs,us,Q,I,r,h;erw[h,z,rfl,hz,q];erw[jZ r,u,rfl,t,rfl];have hn:=Zf;exact len_str () ⟨.int ↑z,H,I.tok _,⟨0⟩,q⟩
def sy:jg X (.type "list") (λxs H Q=>∃p ys,xs= [.ref p]/\(SqL X.K H p ys∨SqT X.K H p ys)/\∀l,H l=U_->Q (.ref l) (upd H l (.lst ys))):=by
 exists 2,xs,us,Q,I,r,h;erw[h,p,ys,rfl,U,q];erw[jZ r,u,rfl,rx];cases rx;have fin:∀(its:oq o7),iq ys its->↑ys<=V5->∀(h':og) (O:Nat),(∀b o',s.heap.get? b=u_ o'->h'.get? b=u_ o')->
   h'.get? #[0,s]=u_ {cls:= .type "list",dict:=U_,data:= .seq its.toArray O,slots:= #[]}->EP X ou σ Q (.ref #[0,s]) {s with heap:=h'}:=λits r' hz h' O kp e=>
  ⟨.ref #[0,s],_,I.laid (t':=s.toks) kp (uA _) (show Q6 X.prog X.w _ h' _ (.lst ys) from⟨hz,its,O,r',e⟩),1,q _ (I.hok.fresh (uA _))⟩
 rcases U with U|U
 ·erw[I.list U,its,r',pl,hz];have Z:=↑r';erw[pl.isList,o,ho,hc,n,hd];exact Ry p (.inl rfl) ho hc hd (λh' O kp e=>fin its r' hz h' O kp e) (by simp![ur]<;>omega)
 ·erw[I.tuple U,its,r',pl,hz];have Z:=↑r';erw[pl,o,ho,hc,n,hd];exact Ry p (.inr rfl) ho hc hd (λh' O kp e=>fin its r' hz h' O kp e) (by simp![ur]<;>omega)
def qX:jg X (.type "tuple") (λxs H Q=>∃p ys,xs= [.ref p]/\((SqL X.K H p ys/\∀l,H l=U_->Q (.ref l) (upd H l (.tup ys)))∨(SqT X.K H p ys/\Q (.ref p) H))):=by
 exists 2,xs,us,Q,I,r,h;erw[h,p,ys,rfl,h];erw[jZ r,u,rfl,rx];cases rx;rcases h with⟨O,q⟩|⟨O,q⟩
 ·erw[I.list O,its,r',pl,hz];have U:=↑r';refine call_tuple_list pl.isList (λh' kp=>?_) (by simp![ur]<;>omega)
  have Z:Inv X ou σ H {s with heap:=h'}:=I.kept (t':=s.toks) kp
  have I2:Inv X ou σ (upd H h'.objs.size (.tup ys)) {s with heap:=h'.push {cls:= .type "tuple",data:= .seq its.toArray}}:=
   Z.laid (t':=s.toks) (λb o e=>ud _ e) (uA _) (show Q6 X.prog X.w _ _ _ (.tup ys) from⟨hz,its,r',GC _ _⟩)
  exact⟨.ref h'.objs.size,_,I2,1,q _ (Z.hok.fresh (uA _))⟩
 ·erw[I.tuple O,its,r',pl,hz];exact call_tuple_same pl ⟨.ref p,H,I,1,q⟩
nonrec def tyV (K:o0)(T:String)(x:V)(H:Hp):Prop:=match x with
 | .str _=>T="str"
 | .int _=>T="int"
 | .ref p=>(T="list"/\∃xs,SqL K H p xs)∨(T="tuple"/\∃o,K.lookup p=u_ o/\o.cls= .type "tuple"/\o.dict=U_)∨
   (T="dict"/\((∃kvs,H p=u_ (.dK kvs))∨∃kvs,H p=u_ (.dT kvs)))∨(T="set"/\∃S n,H p=u_ (.set S n))
 |_=>False
variable {ou:oq (o6×Obj)}{σ:St}{H:Hp}
def LS {T:String}{v:o7}(I:#[I])(r:ik x v)(ty:tyV X.K T x H):
  s.TypeIs v T/\∀a,v= .ref a->∃ob,s.heap.get? a=u_ ob/\ob.dict=none:=by
 cases x with
 |str z=>
  erw[r,t,rfl];cases(show T="str" from ty)
  exact[vW s z t:λ_ e=>nomatch e]
 |int i=>
  erw[r,t,rfl];cases(show T="int" from ty)
  exact[typeIs_int s i t:λ_ e=>nomatch e]
 |ref p=>
  cases r;rcases ty with⟨rfl,xs,U⟩|⟨rfl,o,O,Z,hd⟩|⟨rfl,O⟩|⟨rfl,S,n,O⟩
  ·erw[I.list U,its,_,pl,_];exists pl.isList.typeIs,λa e=>?_;cases e;erw[pl,o,n,e,c,hd,_];exact[o:e:hd]
  ·exists [o:I.kIn p o O:Z],λa e=>?_;cases e;exact[o:I.kIn _ o O:hd]
  ·have z:∃o,s.heap.get? p=u_ o/\o.ExactDict:=by
    rcases O with⟨kvs,O⟩|⟨kvs,O⟩
    ·erw[I.hok p _ O,_,_,_,_,o,_,_,e,ex,_];exact[o:e:ex]
    ·erw[I.hok p _ O,_,_,_,_,o,_,_,e,ex,_];exact[o:e:ex]
   erw[z,o,e,ex];exists [o:e:ex.1],λa e2=>?_;cases e2;exact[o:e:ex.2.1]
  ·erw[I.hok p _ O,o,_,_,_,e,ex,_];exists [o:e:ex.1],λa e2=>?_;cases e2;exact[o:e:ex.2.1]
 |_=>exact Vk ty
nonrec def AdQ (K:o0)(T:String)(r:V->oq V->Hp->VK->Prop)(to:TE):TE:=λσ H Q=>to σ H λx H1=>tyV K T x H1/\r x [] H1 Q
nonrec def tBM (K:o0)(T:String)(r:V->oq V->Hp->VK->Prop)(to:TE)(t:TA):TE:=λσ H Q=>to σ H λx H1=>tyV K T x H1/\t σ H1 λxs H2=>r x xs H2 Q
variable {o e:Expr}{es:oq Expr}{to:TE}{t:TA}{name:Str}{apos cpos:Pos}{T id:String}{r:V->oq V->Hp->VK->Prop}
def Mg (pa:HS T)(slot:Slot T name id)(Z:Hu (.builtin id)=pure (.type "method_descriptor"))(hm:MtR X id r)(ho:PE X o to)
  (O:G9 o name X.env (eval o X.env)=eval o X.env) (U:(apos.endLine==cpos.line)=v_):PE X (.Call (.Attribute o name apos) [] [] cpos) (AdQ X.K T r to):=by
 exists 2,Q,I,h;refine wpAny_Call_method0_late O U (thn (ho ou s σ H _ I h) λv s1 zq=>?_);erw[zq,x,H1,I1,r1,ty,q1];erw[LS I1 r1 ty,h1,h2];exact⟨T,id,pa,slot,Z,h1,h2,U1 rfl (PySem.evalArgs_none (hm ou s1 σ H1 x [] v [] Q I1 r1 .nil q1))⟩
def XY (pa:HS T)(slot:Slot T name id)(ac:Hu (.builtin id)=pure (.type "method_descriptor"))(hm:MtR X id r)(ho:PE X o to)(ha:PA X (e::es) t)
  (U:G9 o name X.env (eval o X.env)=eval o X.env:=by rfl)
  (aa:((Vd cpos (V6 (e::es) X.env)).all (λx=> !x.1)&&(VT cpos (VY [] X.env)).all (λx=>x.1.isSome)
   &&decide (↑(e::es)+↑([]:oq gS)+(if([]:oq gS).isEmpty then 0 else 1)<30))=true:=by rfl)
  (Z:(apos.endLine==cpos.line)=true:=by rfl) (hs:V6 (e::es) X.env=(V1,eval e X.env)::V6 es X.env:=by rfl) (O:(Vd cpos (V6 es X.env)).any (·.1)=false:=by rfl):
  PE X (.Call (.Attribute o name apos) (e::es) [] cpos) (tBM X.K T r to t):=by
 exists 2,Q,I,h;refine wpAny_Call_method_late U aa Z rfl (thn (ho ou s σ H _ I h) λv s1 zq=>?_);erw[zq,x,H1,I1,r1,ty,q1];erw[LS I1 r1 ty,h1,h2];exists T,id,pa,slot,ac,h1,h2;have hA:=ha cpos ou s1 σ H1 _ I1 q1;rw[hs] at hA⊢;refine U1 (by show(V1||(Vd cpos (V6 es X.env)).any (·.1))=V1;rw[O]<;>rfl) (U9 ?_)
 exact thn hA λus s2 ⟨vs,H2,I2,r2,q2⟩=>hm ou s2 σ H2 x vs v us Q I2 r1 r2 q2
end
nonrec def MtM (X:Cx)(id:String)(r:V->oq V->Hp->VK->Prop):Prop:=
 ∀(ou:oq (o6×Obj)) (s:o9) (σ:St) (H:Hp) (x:V) (xs:oq V) (v:o7) (us:oq o7) (Q:VK),#[I]->ik x v->iq xs us->r x xs H Q->
  V2 #[X,X] X.A (call (.builtin id) (v::us)) (EP X ou σ Q) X.xe s
def iq.one:∀{x:V}{us:oq o7},iq [x] us->∃u,us= [u]/\ik x u
 |_,_,.cons r .nil=>[0:r]
def iq.zero:∀{us:oq o7},iq [] us->us= []
 |_,.nil=>rfl
variable {xs:oq V}{us:oq o7}
def iq.dropLast (h:iq xs us):iq xs.dropLast us.dropLast:=by
 induction h with
 |nil=>exact .nil
 |cons r t O=>
  cases t with
  |nil=>exact .nil
  |cons q t'=>exact .cons r O
def iq.eraseIdx:∀{xs:oq V}{us:oq o7} (i:Nat),iq xs us->iq (xs.eraseIdx i) (us.eraseIdx i)
 |_,_,_,.nil=> .nil
 |_,_,0,.cons _ t=>t
 |_,_,i+1,.cons r t=> .cons r (iq.eraseIdx i t)
def CF {α:Type}(l:oq α):l.eraseIdx (↑l-1)=l.dropLast:=by
 induction l with
 |nil=>rfl
 |cons a r O=>
  cases r with
  |nil=>rfl
  |cons b r=>
   have e:↑(a::b::r)-1=(↑(b::r)-1)+1:=by
    have h1:↑(a::b::r)=↑r+2:=rfl;have h2:↑(b::r)=↑r+1:=rfl;omega
   rw[e,List.eraseIdx_cons_succ,O]
   all_goals rfl
def oU {α:Type}:∀(l:oq α) (i:Nat),↑(l.eraseIdx i)<=↑l
 | [],_=>uA _
 |_::_,0=>GF _
 |_::r,i+1=>tO (oU r i)
section
variable {X:Cx}{ou:oq (o6×Obj)}{σ:St}{H:Hp}{s:o9}{l b:o6}{xs ys zs:oq V}
def Inv.lset {its its':oq o7}{n:Nat}{f:Array o7->Array o7}{t':Nat}(I:#[I])(O:H l=u_ (.lst xs))
  (e:s.heap.get? l=u_ {cls:= .type "list",data:= .seq its.toArray n}) (U:f its.toArray=its'.toArray) (Z:iq ys its') (hz:↑ys<=V5) (ht:0<t':=by ac_rfl):
  Inv X ou σ (upd H l (.lst ys)) {s with heap:=s.heap.update l (GG f),toks:=t'}:=by
 have q:=PySem.IsL.update e f;rw[U] at q;refine I.write (x:=l) (e:=l) (by rw[O];exact trivial) (.inl rfl) (λb' u hb hu=>(tG s.heap (GG f) (vX hb)).trans hu) [_:q] ?_
 exact⟨hz,its',_,Z,q⟩
variable {its:oq o7}{t':Nat}
def Inv.lnew (I:#[I])(O:iq ys its)(hz:↑ys<=V5)(U:0<t':=by ac_rfl):
  Inv X ou σ (upd H #[0,s] (.lst ys)) {s with heap:=s.heap.push {cls:= .type "list",data:= .seq its.toArray},toks:=t'}:=
 I.laid (λ_ _ q=>ud _ q) (uA _) ⟨hz,its,(0),O,uL _ rfl⟩
def Inv.fresh (I:#[I]):H #[0,s]=none:=I.hok.fresh (uA _)
def Inv.lstM (I:#[I])(O:H l=u_ (.lst xs)):↑xs<=V5/\∃(its:oq o7) (n:Nat),iq xs its/\↑xs=↑its/\s.heap.get? l=u_ {cls:= .type "list",data:= .seq its.toArray n}:=by
 erw[I.hok l _ O,z,its,n,r,e];exact⟨z,its,n,r,↑r,e⟩
def Lc (h:n<=V5):tJ n=false:=by
 unfold tJ;exact ug ()
end
section
variable {X:Cx}
inductive kT (x:V)(vs:List V)(H:Hp)(Q:VK):Prop
 |mk (l:_)(xs:_)(y:_)(_:x= .ref l)(_:vs= [y])(_:H l=u_ (.lst xs))(_:↑xs<V5)(_:Q .non (upd H l (.lst (xs++ [y]))))
def jr:MtM X "list.append" kT:=by
 exists 2,x,vs,v,us,Q,I,U,rv,h;erw[h,l,xs,y,rfl,rfl,O,hz,q];cases U;erw[rv.one,u,rfl,ru];erw[I.lstM O,z,its,n,r,Z,e];refine vK F.slot_list_append [_:e:1] F.entry_list_append (F.args_list_append_2 _ _) (PySem.list_append l its.toArray n u (by rw[ur];omega)) [e:?_]
 exists .non,_,I.lset (its':=its++ [u]) O e (by simp) (r.append (.cons ru .nil)) ?_,1,q
 rw[uJ,Up];omega
inductive NT (x:V)(vs:List V)(H:Hp)(Q:VK):Prop
 |mk (l:_)(b:_)(xs:_)(zs:_)(_:x= .ref l)(_:vs= [.ref b])(_:H l=u_ (.lst xs))(_:H b=u_ (.lst zs))(_:↑xs+↑zs<=V5)(_:Q .non (upd H l (.lst (xs++zs))))
def Ep:MtM X "list.extend" NT:=by
 exists 2,x,vs,v,us,Q,I,rx,rv,h;erw[h,l,b,xs,zs,rfl,rfl,Z,hB,hz,q];cases rx;erw[rv.one,u,rfl,ru];cases ru;erw[I.lstM Z,z,its,n,r,hl,e];erw[I.lstM hB,z2,O,n2,r2,aa,e2];have hsz:its.toArray.size+O.toArray.size<=sizeLine:=by rw[ur,ur];omega
 have U:¬(!its.toArray.isEmpty&&tJ (its.toArray.size+O.toArray.size))=true:=by
  rw[Lc hsz,T0];exact ub
 refine vK F.slot_list_extend [_:e:1] F.entry_list_extend (F.args_list_extend_2 _ _)
  (p8 l its.toArray n b O.toArray n2 U (by rw[ur];omega) ()) [e:e2:?_]
 exists .non,_,I.lset (its':=its++O) Z e (by simp) (r.append r2) ?_,1,q
 rw[uJ];omega
inductive AdX (x:V)(vs:List V)(H:Hp)(Q:VK):Prop
 |mk (l:_)(xs:_)(y:_)(_:x= .ref l)(_:vs= [])(_:H l=u_ (.lst xs))(_:xs[↑xs-1]? =u_ y)(_:Q y (upd H l (.lst xs.dropLast)))
def Mr:MtM X "list.pop" AdX:=by
 exists 2,x,vs,v,us,Q,I,rx,rv,h;erw[h,l,xs,y,rfl,rfl,Z,hy,q];cases rx;have O:=rv.zero;subst O;erw[I.lstM Z,z,its,n,r,hl,e];erw[r.get hy,u,hu,ru];have U:its.toArray[its.toArray.size-1]? =u_ u:=by
  show its.toArray[↑its-1]? =u_ u;rwa[<-HR,<-hl]
 refine vK F.slot_list_pop [_:e:1] F.entry_list_pop (F.args_list_pop_1 _) (pK l its.toArray n u U (by rw[ur];omega)) [e:?_]
 exists y,_,I.lset (its':=its.dropLast) Z e ?_ r.dropLast ?_,ru,q
 ·show its.toArray.eraseIdxIfInBounds (its.toArray.size-1)=its.dropLast.toArray;rw[ur,rA,CF]
 ·rw[List.length_dropLast];omega
inductive Aak (x:V)(vs:List V)(H:Hp)(Q:VK):Prop
 |mk (l:_)(xs:_)(i:_)(k:_)(y:_)(_:x= .ref l)(_:vs= [.int i])(_:H l=u_ (.lst xs))(_: -(2^63)<=i)(_:i<2^63)(_:GN i ↑xs=u_ k)(_:xs[k]? =u_ y)(_:Q y (upd H l (.lst (xs.eraseIdx k))))
def Lf:MtM X "list.pop" Aak:=by
 exists 2,x,vs,v,us,Q,I,Z,rv,h;erw[h,l,xs,i,k,y,rfl,rfl,U,h1,h2,hk,hy,q];cases Z;erw[rv.one,u,rfl,ru];erw[ru,t,rfl];erw[I.lstM U,z,its,n,r,hl,e];erw[r.get hy,w,hw,O];refine vK F.slot_list_pop [_:e:1] F.entry_list_pop (F.args_list_pop_2 _ _)
  (pB l its.toArray n i t k w (fitsIndex_both h1 h2) (by rwa[ur,<-hl]) (by rwa[<-HR]) (by rw[ur];omega)) [e:?_]
 exists y,_,I.lset (its':=its.eraseIdx k) U e ?_ (r.eraseIdx k) ?_,O,q
 ·show its.toArray.eraseIdxIfInBounds k=(its.eraseIdx k).toArray;rw[rA]
 ·have:=oU xs k;omega
inductive Ab1 (x:V)(y:V)(H:Hp)(Q:VK):Prop
 |mk (l:_)(b:_)(xs:_)(zs:_)(_:x= .ref l)(_:y= .ref b)(_:H l=u_ (.lst xs))(_:H b=u_ (.lst zs))(_:↑xs+↑zs<=V5)(_:∀p,H p=U_->Q (.ref p) (upd H p (.lst (xs++zs))))
def Bp:OpR X (Vy .Add) Ab1:=by
 exists 2,x,y,v,u,Q,I,U,Z,h;erw[h,l,b,xs,zs,rfl,rfl,hH,hB,hz,q];cases U;cases Z;erw[I.lstM hH,z,its,n,r,hl,e];erw[I.lstM hB,z2,O,n2,r2,aa,e2];refine PySem.P.add_list e e2 ?_ (by rw[ur,ur];omega)
 have ea:its.toArray++O.toArray=(its++O).toArray:=by simp
 rw[ea];exact⟨.ref _,_,I.lnew (t':=s.toks) (r.append r2) (by rw[uJ];omega),1,q _ I.fresh⟩
end
section
variable {prog:oh}{w:oj}{A:om}{E:o7->o9->Prop}{s:o9}
set_option maxRecDepth 100000 in
end
section
variable {κ:Type}[DecidableEq κ]
nonrec def iJ (kvs:oq (κ×V))(k:κ):ot V:=(kvs.find? λkv=>decide (kv.1=k)).map (·.2)
nonrec def lm (kvs:oq (κ×V))(k:κ)(v:V):oq (κ×V):=
 if(kvs.any λkv=>decide (kv.1=k))=v_ then kvs.map (λkv=>if kv.1=k then(kv.1,v) else kv) else kvs++ [(k,v)]
nonrec def Jp (kvs:oq (κ×V))(k:κ):oq (κ×V):=kvs.filter λkv=>decide (kv.1≠k)
def Ke {k:κ}:iJ ([]:oq (κ×V)) k=none:=rfl
def QF {p:κ×V}{r:oq (κ×V)}{k:κ}(e:p.1=k):iJ (p::r) k=u_ p.2:=by simp[iJ,v9,e]
def QA {p:κ×V}{r:oq (κ×V)}{k:κ}(e:¬p.1=k):iJ (p::r) k=iJ r k:=by simp[iJ,v9,e]
def JN (k:κ):∀kvs:oq (κ×V),(kvs.any λkv=>decide (kv.1=k))=(iJ kvs k).isSome
 | []=>rfl
 |p::r=>by
  rw[Ut];by_cases e:p.1=k
  ·simp![QF e,uh e,Bool.true_or,Option.isSome_some]
  ·rw[QA e,ug e,HW];exact JN k r
def AS (k j:κ)(y:V):∀kvs:oq (κ×V),iJ (kvs.map λkv=>if kv.1=k then(kv.1,y) else kv) j=(iJ kvs j).map λx=>if j=k then y else x
 | []=>rfl
 |p::r=>by
  have O:=AS k j y r;rw[uD];by_cases h:p.1=k
  ·rw[A6 h];by_cases e:p.1=j
   ·rw[QF (p:=(p.1,y)) e,QF e,hZ,A6 (e.symm.trans h)]
   ·rw[QA (p:=(p.1,y)) e,QA e,O]
  ·rw[A4 h];by_cases e:p.1=j
   ·rw[QF (p:=p) e,QF e,hZ,A4 (λz=>h (e.trans z))]
   ·rw[QA (p:=p) e,QA e,O]
def nG (k j:κ)(y:V):∀kvs:oq (κ×V),iJ kvs k=U_->iJ (kvs++ [(k,y)]) j=if j=k then u_ y else iJ kvs j
 | [],_=>by
  by_cases e:k=j
  ·rw[A6 e.symm];exact QF (p:=(k,y)) e
  ·rw[A4 (λz=>e z.symm)];exact QA (p:=(k,y)) e
 |p::r,hn=>by
  rw[Ux];have O:¬p.1=k:=λz=>by rw[QF z] at hn;cases hn
  rw[QA O] at hn;have U:=nG k j y r hn;by_cases e:p.1=j
  ·rw[QF e,QF e,A4 (λz=>O (e.trans z))]
  ·rw[QA e,QA e,U]
def XA (kvs:oq (κ×V))(k j:κ)(y:V):iJ (lm kvs k y) j=if j=k then u_ y else iJ kvs j:=by
 unfold lm;by_cases a:(kvs.any λkv=>decide (kv.1=k))=v_
 ·rw[A6 a,AS];rw[JN] at a;by_cases e:j=k
  ·erw[Option.isSome_iff_exists.mp a,x,O];rw[A6 e,e,O,hZ,A6 rfl]
  ·rw[A4 e];cases iJ kvs j with
   |none=>rfl
   |some x=>rw[hZ,A4 e]
 ·rw[A4 a];refine nG k j y kvs ?_;rw[JN] at a;cases q:iJ kvs k with
  |none=>rfl
  |some x=>rw[q] at a;exact(a rfl).elim
def QY (kvs:oq (κ×V))(k:κ)(v:V):↑(lm kvs k v)<=↑kvs+1:=by
 unfold lm;split
 ·rw[u9];omega
 ·rw[uJ,uB,UJ];omega
variable {kvs:oq (κ×V)}
def Xl {k:κ}(v:V)(h:iJ kvs k=U_):lm kvs k v=kvs++ [(k,v)]:=by
 unfold lm;rw[JN,h];exact A4 ()
def mZ.isSome_eq {o:ot V}{u:ot o7}(r:mZ o u):o.isSome=u.isSome:=by
 cases o with
 |none=>cases u with
  |none=>rfl
  |some _=>exact(show False from r).elim
 |some _=>cases u with
  |none=>exact(show False from r).elim
  |some _=>rfl
def mZ.getD {o:ot V}{u:ot o7}{d:V}{d':o7}(r:mZ o u)(rd:ik d d'):ik (o.getD d) (u.getD d'):=by
 cases o with
 |none=>cases u with
  |none=>exact rd
  |some _=>exact(show False from r).elim
 |some _=>cases u with
  |none=>exact(show False from r).elim
  |some _=>exact r
variable {vs:oq (κ×o7)}
def KV.val (r:KV kvs vs)(k:κ):mZ (iJ kvs k) (Vz vs k):=by
 unfold KV at r
 induction r with
 |nil=>exact Vr
 | @cons p q ps qs h t ih=>
  erw[h,h1,h2];by_cases e:p.1=k
  ·have O:q.1=k:=h1.symm.trans e;have b:Vz (q::qs) k=u_ q.2:=by simp[Vz,v9,O]
   rwa[QF e,b]
  ·have O:¬q.1=k:=λz=>e (h1.trans z);have b:Vz (q::qs) k=Vz qs k:=by simp[Vz,v9,O]
   rw[QA e,b];exact ih
def KV.any (r:KV kvs vs)(k:κ):(kvs.any λkv=>decide (kv.1=k))=vs.any λkv=>decide (kv.1=k):=by
 unfold KV at r
 induction r with
 |nil=>rfl
 |cons h t O=>rw[Ut,Ut,O,h.1]
variable {y:V}{u:o7}
def KV.repl (r:KV kvs vs)(k:κ)(O:ik y u):
  KV (kvs.map λkv=>if kv.1=k then(kv.1,y) else kv) (vs.map λkv=>if kv.1=k then(kv.1,u) else kv):=by
 unfold KV at r⊢
 induction r with
 |nil=>exact .nil
 | @cons p q ps qs h t ih=>
  rw[uD,uD];refine .cons ?_ ih;erw[h,h1,h2];by_cases e:p.1=k
  ·rw[A6 e,A6 (h1.symm.trans e)];exact[h1:O]
  ·rw[A4 e,A4 (λz=>e (h1.trans z))];exact[h1:h2]
def KV.put (r:KV kvs vs)(k:κ)(O:ik y u):KV (lm kvs k y) (gR vs k u):=by
 unfold lm gR;rw[r.any k];by_cases e:(vs.any λkv=>decide (kv.1=k))=v_
 ·rw[A6 e,A6 e];exact r.repl k O
 ·rw[A4 e,A4 e];exact Paired.snoc r [1:O]
def KV.drop (r:KV kvs vs)(k:κ):KV (Jp kvs k) (without vs k):=by
 unfold KV at r⊢;unfold Jp without
 induction r with
 |nil=>exact .nil
 | @cons p q ps qs h t ih=>
  erw[h,h1,h2];rw[vS,vS];by_cases e:p.1=k
  ·have a:¬decide (p.1≠k)=true:=by simp[e]
   have b:¬decide (q.1≠k)=true:=by simp[h1.symm.trans e]
   rw[A4 a,A4 b];exact ih
  ·have O:¬q.1=k:=λz=>e (h1.trans z);have a:decide (p.1≠k)=true:=by simp[e]
   have b:decide (q.1≠k)=true:=by simp[O]
   rw[A6 a,A6 b];exact .cons [h1:h2] ih
def KV.keys (r:KV kvs vs):kvs.map (·.1)=vs.map (·.1):=by
 unfold KV at r
 induction r with
 |nil=>rfl
 |cons h t O=>rw[uD,uD,O,h.1]
def KV.length (r:KV kvs vs):↑kvs=↑vs:=Paired.length r
def BP (kvs:oq (κ×V))(k:κ):↑(Jp kvs k)<=↑kvs:=Uq _ _
end
variable {w:oj}{u:o7}
def Ko {P:oh}{k:Key}(r:ik (kV k) u):(Ql P w).is k u=true:=by
 cases k with
 |inl i=>obtain⟨t,e⟩:=(show∃t,u=gT i t from r);subst e;exact As P w i t
 |inr x=>obtain⟨t,e⟩:=(show∃t,u=Vt x t from r);subst e;exact wP P w x t
def oX {P:oh}{w:oj}:∀{ks:oq Key}{us:oq o7},iq (ks.map kV) us->ItemsAre (Ql P w) ks us
 | [],_,r=>by rw[Ud] at r;cases r;exact .nil
 |k::ks,_,r=>by
  rw[uD] at r;cases r with
  |cons h t=>exact .cons (Ko h) (oX t)
noncomputable abbrev KT (H:Hp):oq (oq Key×V)->oq (oq Key×o6×o7)->Prop:=Paired λp q=>p.1=q.1/\H q.2.1=u_ (.tup (p.1.map kV))/\ik p.2 q.2.2
variable {H:Hp}
def KT.val {kvs:oq (oq Key×V)}{xs:oq (oq Key×o6×o7)}(r:KT H kvs xs)(k:oq Key):mZ (iJ kvs k) ((VW xs k).map (·.2)):=by
 induction r with
 |nil=>exact Vr
 | @cons p q ps qs h t ih=>
  erw[h,h1,_,h2];by_cases e:p.1=k
  ·have O:q.1=k:=h1.symm.trans e;have b:VW (q::qs) k=u_ q.2:=by simp[VW,v9,O]
   rwa[QF e,b]
  ·have O:¬q.1=k:=λz=>e (h1.trans z);have b:VW (q::qs) k=VW qs k:=by simp[VW,v9,O]
   rw[QA e,b];exact ih
variable {y:V}
def KT.repl {kvs:oq (oq Key×V)}{xs:oq (oq Key×o6×o7)}(r:KT H kvs xs)(k:oq Key)(O:ik y u):
  KT H (kvs.map λkv=>if kv.1=k then(kv.1,y) else kv) (xs.map (putAt k u)):=by
 induction r with
 |nil=>exact .nil
 | @cons p q ps qs h t ih=>
  rw[uD,uD];refine .cons ?_ ih;erw[h,h1,h2,h3];unfold putAt;by_cases e:p.1=k
  ·rw[A6 e,A6 (h1.symm.trans e)];exact[h1:h2:O]
  ·rw[A4 e,A4 (λz=>e (h1.trans z))];exact[h1:h2:h3]
variable {b:o6}
def KT.put {kvs:oq (oq Key×V)}{xs:oq (oq Key×o6×o7)}(r:KT H kvs xs)(k:oq Key)(U:H b=u_ (.tup (k.map kV)))(O:ik y u):
  KT H (lm kvs k y) (storedH xs k b u):=by
 have e:(kvs.any λkv=>decide (kv.1=k))=(VW xs k).isSome:=by
  rw[JN,(r.val k).isSome_eq,TB]
 unfold lm storedH;rw[e];by_cases q:(VW xs k).isSome=v_
 ·rw[A6 q,A6 q];exact r.repl k O
 ·rw[A4 q,A4 q];exact Paired.snoc r [1:U:O]
variable {H':Hp}
def KT.keeps {kvs:oq (oq Key×V)}{xs:oq (oq Key×o6×o7)}(r:KT H kvs xs)(O:∀b ys,H b=u_ (.tup ys)->H' b=u_ (.tup ys)):KT H' kvs xs:=
 Paired.mapP r λ_ _ z=>[z.1:O _ _ z.2.1:z.2.2]
section
variable {P:oh}{w:oj}{H:Hp}{h:og}{a:o6}
def Aah {u:HO}(ok:HOk P w H h)(e:Rd H a u):Q6 P w H h a u:=e.ok ok
def su {kvs:oq (Key×V)}(ok:HOk P w H h)(e:Rd H a (.dK kvs)):↑kvs<=V5/\(a==Vn)=V1/\∃vs,KV kvs vs/\h.DictOf (Ql P w) a vs:=
 show Q6 P w H h a (.dK kvs) from Aah ok e
def CH {kvs:oq (Key×V)}(ok:HOk P w H h)(e:H a=u_ (.dK kvs)):↑kvs<=V5/\(a==Vn)=V1/\∃vs,KV kvs vs/\h.DictOf (Ql P w) a vs:=su ok (.inl e)
def WH {ks:oq Key}(ok:HOk P w H h)(e:H a=u_ (.tup (ks.map kV))):(Go (Ql P w)).is h ks a:=by
 obtain⟨_,its,r,o,h1,h2,n,h3⟩:=(show Q6 P w H h a (.tup (ks.map kV)) from ok a _ e)
 exact⟨o,its.toArray,n,h1,h2,h3,by simpa using oX r⟩
def AF {kvs:oq (oq Key×V)}(ok:HOk P w H h)(e:Rd H a (.dT kvs)):↑kvs<=V5/\(a==Vn)=V1/\
  ∃xs,KT H kvs xs/\h.DictOfH (Go (Ql P w)) a xs:=by
 obtain⟨z,y,xs,r,o,es,ep,h1,h2,h3,h4,h5⟩:=(show Q6 P w H h a (.dT kvs) from Aah ok e)
 exists z,y,xs,r,o,es,ep,h1,h2,h3,h4,λx O=>?_,h5;have all:∀{l:oq (oq Key×V)}{m:oq (oq Key×o6×o7)},KT H l m->∀x∈m,(Go (Ql P w)).is h x.1 x.2.1:=by
  intro l m q
  induction q with
  |nil=>intro x O;exact nomatch O
  | @cons p q ps qs hq t ih=>
   intro x O;rcases Aa.mp O with e|O
   ·subst e;exact WH ok (by rw[<-hq.1];exact hq.2.1)
   ·exact ih x O
 exact all r x O
def Ac2 {kvs:oq (oq Key×V)}(ok:HOk P w H h)(e:H a=u_ (.dT kvs)):↑kvs<=V5/\(a==Vn)=V1/\
  ∃xs,KT H kvs xs/\h.DictOfH (Go (Ql P w)) a xs:=AF ok (.inl e)
end
nonrec def mM (H:Hp)(a:o6)(y:V)(r:ot V):Prop:=
 (∃kvs k,Rd H a (.dK kvs)/\y=kV k/\r=iJ kvs k)∨∃kvs k b,Rd H a (.dT kvs)/\y= .ref b/\H b=u_ (.tup (k.map kV))/\r=iJ kvs k
nonrec def CQ (H:Hp)(a:o6)(y v:V)(H':Hp):Prop:=
 (∃kvs k,H a=u_ (.dK kvs)/\y=kV k/\↑kvs<V5/\H'=upd H a (.dK (lm kvs k v)))∨
 ∃kvs k b,H a=u_ (.dT kvs)/\y= .ref b/\H b=u_ (.tup (k.map kV))/\↑kvs<V5/\H'=upd H a (.dT (lm kvs k v))
def mM.k {H:Hp}{a:o6}{kvs:oq (Key×V)}{k:Key}(e:H a=u_ (.dK kvs)):mM H a (kV k) (iJ kvs k):= .inl ⟨kvs,k,.inl e,1,1⟩
def CQ.k {H:Hp}{a:o6}{kvs:oq (Key×V)}{k:Key}{v:V}(e:H a=u_ (.dK kvs))(O:↑kvs<V5):CQ H a (kV k) v (upd H a (.dK (lm kvs k v))):= .inl ⟨kvs,k,e,1,O,1⟩
section
variable {X:Cx}{ou:oq (o6×Obj)}{σ:St}{H:Hp}{s:o9}{a:o6}{y v:V}{u r:o7}{o:ot V}{A:om}{E:o7->o9->Prop}
def Inv.big (I:#[I]):Vn<#[0,s]:=by
 have h:Vo<#[0,s]:=(I.mod.glob.keeps I.bk).lt;exact GZ () h
def Ij {Q:o7->o9->Prop}(hu:A.units+1<Vb)(I:#[I])(g:mM H a y (u_ v))(ry:ik y u)(h:∀U s',Inv X ou σ H s'->ik v U->Q U s'):
  V2 #[X,X] A (VQ (.ref a) u) Q E s:=by
 rcases g with⟨kvs,k,e,Z,l⟩|⟨kvs,k,b,e,Z,eb,l⟩
 ·subst Z;erw[su I.hok e,z,hd,vs,rel,dd];obtain⟨U,hw,O⟩:=mZ.some_of (v:=v) (o:=Vz vs k) (by rw[l];exact rel.val k)
  exact rW (Ko ry) dd.mapOf hw (h U _ (I.tok _) O)
 ·subst Z;cases(show u=V7 b from ry)
  erw[AF I.hok e,z,hd,xs,rel,dd];obtain⟨U,hw,O⟩:=mZ.some_of (v:=v) (o:=(VW xs k).map (·.2)) (by rw[l];exact rel.val k)
  erw[Option.map_eq_some_iff.mp hw,p,hp,aa];refine wpAny_getItem_heap (Uj hu) (WH I.hok eb) dd hp ?_;rw[aa];exact h U _ (I.tok _) O
def Aeb {Q:o7->o9->Prop}(Z:A.units+1<Vb)(I:#[I])(g:mM H a y o)(U:ik y u)(h:∀s',Inv X ou σ H s'->Q (.bool o.isSome) s'):
  V2 #[X,X] A (Vc .In u (.ref a)) Q E s:=by
 rcases g with⟨kvs,k,e,O,l⟩|⟨kvs,k,b,e,O,eb,l⟩
 ·subst O;erw[su I.hok e,z,hd,vs,rel,dd];refine Fd (Ko U) hd dd.mapOf ?_;rw[<-(rel.val k).isSome_eq,<-l];exact h _ (I.tok _)
 ·subst O;cases(show u=V7 b from U)
  erw[AF I.hok e,z,hd,xs,rel,dd];refine wpAny_in_heap (Uj Z) (WH I.hok eb) hd dd ?_;have q:=(rel.val k).isSome_eq;rw[TB] at q;rw[<-q,<-l];exact h _ (I.tok _)
def Ps {Q:o7->o9->Prop}(Z:A.units+1<Vb)(I:#[I])(g:mM H a y o)(U:ik y u)(h:∀s',Inv X ou σ H s'->Q (.bool (!o.isSome)) s'):
  V2 #[X,X] A (Vc .NotIn u (.ref a)) Q E s:=by
 rcases g with⟨kvs,k,e,O,l⟩|⟨kvs,k,b,e,O,eb,l⟩
 ·subst O;erw[su I.hok e,z,hd,vs,rel,dd];refine Fs (Ko U) hd dd.mapOf ?_;rw[<-(rel.val k).isSome_eq,<-l];exact h _ (I.tok _)
 ·subst O;cases(show u=V7 b from U)
  erw[AF I.hok e,z,hd,xs,rel,dd];refine wpAny_notIn_heap (Uj Z) (WH I.hok eb) hd dd ?_;have q:=(rel.val k).isSome_eq;rw[TB] at q;rw[<-q,<-l];exact h _ (I.tok _)
variable {h':og}{t':Nat}
def ZY {ob:HO}(I:#[I])(mu:Mut (H a))(O:VF a s.heap h')(U:∃q,h'.get? a=u_ q)(new:Q6 X.prog X.w (upd H a ob) h' a ob)(ht:0<t':=by ac_rfl):
  Inv X ou σ (upd H a ob) {s with heap:=h',toks:=t'}:=
 I.write (x:=a) (e:=a) mu (.inl rfl) (λb q Z z=>(O.2 b Z).trans z) U new
def wC {P:oh}{kvs:oq (Key×V)}{vs:oq (Key×o7)}(z:↑kvs<=V5)(hd:(a==Vn)=V1)(rel:KV kvs vs)(dd:h'.DictOf (Ql P w) a vs):
  Q6 P w H' h' a (.dK kvs):=⟨z,hd,vs,rel,dd⟩
def Ii {Q:Unit->o9->Prop}(hu:A.units+1<Vb)(I:#[I])(g:CQ H a y v H')(ry:ik y u)(rv:ik v r)(h:∀s',Inv X ou σ H' s'->Q V_ s'):
  V2 #[X,X] A (Tl (.ref a) u r) Q E s:=by
 rcases g with⟨kvs,k,e,Z,l,eH⟩|⟨kvs,k,b,e,Z,eb,l,eH⟩
 ·subst Z eH;erw[CH I.hok e,z,hd,vs,rel,dd];have hz:↑vs<=sizeLine:=by rwa[<-↑rel]
  have hl:↑(lm kvs k v)<=sizeLine:=by have:=QY kvs k v;omega
  refine wpAny_setItem_pairs (hsz:=hz) (Ko ry) dd λh' O hs=>h _ ?_;have he:∃q,h'.get? a=u_ q:=let⟨q,_,_,U,_⟩:=O;[q:U];exact ZY I (by rw[e];exact Vr) hs he (wC hl hd (rel.put k rv) O)
 ·subst Z eH;cases(show u=V7 b from ry)
  erw[Ac2 I.hok e,z,hd,xs,rel,dd];have hz:↑xs<=sizeLine:=by rwa[<-Paired.length rel]
  have hl:↑(lm kvs k v)<=sizeLine:=by have:=QY kvs k v;omega
  refine wpAny_setItem_heap (hsz:=hz) (Uj hu) (WH I.hok eb) dd λh' O hs=>h _ ?_;erw[O,q,es,ep,U,h2,h3,h4,_,h5];refine ZY I (by rw[e];exact Vr) hs [q:U] ⟨hl,hd,_,(rel.put k eb rv).keeps λc ys ec=>?_,q,es,ep,U,h2,h3,h4,h5⟩
  rw[qh (AcH ec e (λz=>nomatch z))];exact ec
end
section
variable {X:Cx}{ou:oq (o6×Obj)}{σ:St}{H:Hp}{s:o9}{a:o6}{kvs:oq (Key×V)}{k:Key}{u:o7}{A:om}{E:o7->o9->Prop}
def Ac3 {v:V}{more:oq o7}{Q:o7->o9->Prop}(I:#[I])(e:H a=u_ (.dK kvs))(Z:ik (kV k) u)(l:iJ kvs k=u_ v)(hm:more= []∨∃x,more= [x])
  (h:∀O s',Inv X ou σ (upd H a (.dK (Jp kvs k))) s'->ik v O->Q O s'):V2 #[X,X] A (call (.builtin "dict.pop") (.ref a::u::more)) Q E s:=by
 erw[CH I.hok e,z,hd,vs,rel,dd];obtain⟨O,hw,aa⟩:=mZ.some_of (v:=v) (o:=Vz vs k) (by rw[<-l];exact rel.val k)
 have hp:(keyPart u).isSome=true:=by
  cases k with
  |inl i=>obtain⟨t,q⟩:=(show∃t,u=gT i t from Z);subst q;rfl
  |inr x=>obtain⟨t,q⟩:=(show∃t,u=Vt x t from Z);subst q;rfl
 have ha:argsOk "dict.pop" ⟨.ref a::u::more,[]⟩:=by
  rcases hm with q|⟨x,q⟩
  ·subst q;exact PySem.F.args_dict_pop_2 _ _
  ·subst q;exact PySem.F.args_dict_pop_3 _ _ _
 refine Hi PySem.F.slot_dict_pop dd.typeIs PySem.F.entry_dict_pop ha (meets_dict_pop_there (Ql X.prog X.w) a (Ko Z) more hm hp)
  ⟨vs,O,dd,by rwa[<-↑rel],hw,λh' U hs=>h O _ ?_ aa⟩
 have he:∃q,h'.get? a=u_ q:=let⟨q,_,_,hq,_⟩:=U;[q:hq];exact ZY I (by rw[e];exact Vr) hs he (wC (vg (BP kvs k) z) hd (rel.drop k) U)
def Ac4 {Q:o7->o9->Prop}(I:#[I])(e:Rd H a (.dK kvs))(h:∀t s',Inv X ou σ H s'->Q (.int ↑kvs t) s'):V2 #[X,X] A (call (.builtin "len") [.ref a]) Q E s:=by
 erw[su I.hok e,z,hd,vs,rel,dd];refine call_len_dict hd dd (by rw[<-↑rel];rw[uE] at z;omega) ?_
 rw[<-↑rel];exact h _ _ (I.tok _)
end
nonrec def AdF (i:Expr):Prop:=∀ov iv,h_ i V1 ov iv=tD [ov,iv] (VQ ov iv)
def M5 {prog:oh}{w:oj}{A:om}{E:o7->o9->Prop}{s:o9}{env:Env}{value slice:Expr}{pos:Pos}{T id:String}{Q:o7->o9->Prop}
  (hl:Hl (.type T) "__getitem__"=pure (u_ (.builtin id))) (hs:AdF slice)
  (h:V2 #[w,w] A (eval value env) (λo Z=>V2 #[w,w] A (eval slice env) (λi O=>O.TypeIs o T/\V2 #[w,w] A (VQ o i) Q E O) E Z) E s):
  V2 #[w,w] A (eval (.Subscript value slice pos) env) Q E s:=by
 refine tU (vt h (λo Z h₁=>vt h₁ (λi O U=>?_) λ_ _ x=>x) λ_ _ x=>x);erw[U,hT,U];unfold Ts;refine A7 ?_;rw[getitemInPython_of_ne hT.not_modules];refine A7 (wpAny_specialOf hT hl ?_);have fin:V2 #[w,w] A (h_ slice V1 o i) (λr s₃=>V2 #[w,w] A (letTemporaryGo value o r>>=λ_=>pure r) Q E s₃) E O:=by
  rw[hs o i];exact wpAny_operating (vt U (λr s₃ h₃=>A7 (wpAny_letTemporaryGo (uF h₃))) λ_ _ x=>x)
 first
  |exact uF (A7 fin)
  |exact A7 (uF (A7 fin))
  |exact A7 fin
variable {X:Cx}{ou:oq (o6×Obj)}{σ:St}{s:o9}{a:o6}
def AG {o:ot V}(I:#[I])(g:mM H a y o):s.TypeIs (.ref a) "dict":=by
 rcases g with⟨kvs,k,e,_,_⟩|⟨kvs,k,b,e,_,_,_⟩
 ·erw[su I.hok e,_,_,vs,_,dd];exact dd.typeIs
 ·erw[AF I.hok e,_,_,xs,_,dd];exact dd.typeIs
inductive MP (Q:VK)(x:V)(y:V)(H2:Hp):Prop
 |mk (a:_)(v:_)(_:x= .ref a)(_:mM H2 a y (u_ v))(_:Q v H2)
nonrec def Ack (td ty:TE):TE:=λσ H Q=>td σ H λx H1=>ty σ H1 λy H2=>MP Q x y H2
inductive Adc (Q:VK)(y:V)(x:V)(H2:Hp):Prop
 |mk (a:_)(o:_)(_:x= .ref a)(_:mM H2 a y o)(_:Q (.bl o.isSome) H2)
nonrec def AdP (ty td:TE):TE:=λσ H Q=>ty σ H λy H1=>td σ H1 λx H2=>Adc Q y x H2
inductive LJ (Q:VK)(y:V)(x:V)(H2:Hp):Prop
 |mk (a:_)(o:_)(_:x= .ref a)(_:mM H2 a y o)(_:Q (.bl (!o.isSome)) H2)
nonrec def MZ (ty td:TE):TE:=λσ H Q=>ty σ H λy H1=>td σ H1 λx H2=>LJ Q y x H2
inductive AbR (D:mL)(σ:St)(v:V)(x:V)(y:V)(H3:Hp):Prop
 |mk (a:_)(H4:_)(_:x= .ref a)(_:CQ H3 a y v H4)(_:D.nx σ H4)
nonrec def Acr (td ty tv:TE):TS:=λD σ H=>tv σ H λv H1=>td σ H1 λx H2=>ty σ H2 λy H3=>AbR D σ v x y H3
section
variable {X:Cx}{o i e value:Expr}{pos pos' tpos:Pos}{td ty tv:TE}
def Qc (Z:X.A.units+1<Vb)(ho:PE X o td)(hi:PE X i ty)(hs:AdF i):PE X (.Subscript o i pos) (Ack td ty):=by
 exists 2,Q,I,h;refine M5 PySem.F.slot_dict_getitem.lookup hs (thn (ho ou s σ H _ I h) λu s1 ⟨x,H1,I1,rx,q1⟩=>thn (hi ou s1 σ H1 _ I1 q1) λiv s2 zq=>?_);erw[zq,y,H2,U,ry,a,v,ex,g,q2];subst ex;obtain rfl:u=V7 a:=rx;exact[AG U g:Ij Z U g ry λw' s3 I3 O=>⟨v,H2,I3,O,q2⟩]
def Wk (O:X.A.units+1<Vb)(hi:PE X i ty)(U:PE X o td):PC X .In i o (AdP ty td):=by
 exists 2,Q,I,h;refine thn (hi ou s σ H _ I h) λiv s1 ⟨y,H1,Z,ry,q1⟩=>thn (U ou s1 σ H1 _ Z q1) λu s2 zq=>?_;erw[zq,x,H2,I2,rx,a,ov,ex,g,q2];subst ex;obtain rfl:u=V7 a:=rx;exact Aeb O I2 g ry λs3 I3=>⟨.bl ov.isSome,H2,I3,1,q2⟩
def DP (O:X.A.units+1<Vb)(hi:PE X i ty)(U:PE X o td):PC X .NotIn i o (MZ ty td):=by
 exists 2,Q,I,h;refine thn (hi ou s σ H _ I h) λiv s1 ⟨y,H1,Z,ry,q1⟩=>thn (U ou s1 σ H1 _ Z q1) λu s2 zq=>?_;erw[zq,x,H2,I2,rx,a,ov,ex,g,q2];subst ex;obtain rfl:u=V7 a:=rx;exact Ps O I2 g ry λs3 I3=>⟨.bl (!ov.isSome),H2,I3,1,q2⟩
def jj (O:X.A.units+1<Vb)(U:PE X o td)(hi:PE X i ty)(Z:PE X value tv)(hs:GB value (u_ (.Subscript o i pos')) pos.line X.env=pure V1):
  PS X (.Assign [.Subscript o i pos'] value pos) (Acr td ty tv):=by
 exists 2,D,I,h;refine wpAny_Assign_Subscript (thn (Z ou s σ H _ I h) λr s1 ⟨v,H1,I1,rv,q1⟩=>thn (U ou s1 σ H1 _ I1 q1) λu s2 ⟨x,H2,I2,rx,q2⟩=>thn (hi ou s2 σ H2 _ I2 q2) λiv s3 zq=>?_) hs;erw[zq,y,H3,I3,ry,a,H4,ex,g,q3];subst ex;obtain rfl:u=V7 a:=rx;exact Ii O I3 g ry rv λs4 I4=>⟨σ,H4,I4,q3⟩
end
def BQ {P:oh}(h:og)(O:Vn<h.objs.size):Q6 P w H (h.push {cls:= .type "dict",data:= .dict #[]}) h.objs.size (.dK []):=
 ⟨uY _,beq_eq_false_iff_ne.mpr (vX (v7 O)),[],.nil,Fv h⟩
nonrec def Sz:TE:=λ_ H Q=>∀p,H p=U_->Q (.ref p) (upd H p (.dK []))
section
variable {X:Cx}{pos:Pos}
def jL:PE X (.Dict [] [] pos) Sz:=λou s σ H Q I h=>
 wpAny_Dict_empty ⟨.ref #[0,s],_,I.laid (a:=#[0,s]) (o:= .dK []) (t':=s.toks) (λ_ _ q=>ud _ q) (uA _) (BQ s.heap I.big),1,h _ (I.hok.fresh (uA _))⟩
end
nonrec def C8:oq (TE×TE)->St->Hp->(oq (V×V)->Hp->Prop)->Prop
 | [],_,H,Q=>Q [] H
 |(tk,tv)::r,σ,H,Q=>tk σ H λx H1=>tv σ H1 λy H2=>C8 r σ H2 λps H3=>Q ((x,y)::ps) H3
noncomputable abbrev VV:oq (V×V)->oq (o7×o7)->Prop:=Paired λp q=>ik p.1 q.1/\ik p.2 q.2
nonrec def PPs (X:Cx)(pos:Pos)(keys:oq (ot Expr))(values:oq Expr)(trs:oq (TE×TE)):Prop:=
 ∀(ou:oq (o6×Obj)) (s:o9) (σ:St) (H:Hp) (Q:oq (V×V)->Hp->Prop),#[I]->C8 trs σ H Q->
  V2 #[X,X] X.A (evalPairs (pairTrees keys values X.env pos)) (λvs s'=>∃ps H',Inv X ou σ H' s'/\VV ps vs/\Q ps H') X.xe s
variable {pos:Pos}
def NY:PPs X pos [] [] []:=λou s σ H Q I h=>pairTrees_nil_walk ⟨[],H,I,.nil,h⟩
def Bk {X:Cx}{pos:Pos}{k v:Expr}{ks:oq (ot Expr)}{vs:oq Expr}{tk tv:TE}{O:oq (TE×TE)}(U:PE X k tk)(Z:PE X v tv)(hr:PPs X pos ks vs O):
  PPs X pos (u_ k::ks) (v::vs) ((tk,tv)::O):=λou s σ H Q I h=>
 pairTrees_cons_walk (thn (U ou s σ H _ I h) λu s1 ⟨x,H1,I1,rx,q1⟩=>thn (Z ou s1 σ H1 _ I1 q1) λw2 s2 ⟨y,H2,I2,ry,q2⟩=>
  thn (hr ou s2 σ H2 _ I2 q2) λws s3 ⟨ps,H3,I3,rel,q3⟩=>⟨(x,y)::ps,H3,I3,.cons [rx:ry] rel,q3⟩)
nonrec def J7 (kvs more:oq (Key×V)):oq (Key×V):=more.foldl (λacc kv=>lm acc kv.1 kv.2) kvs
def KV.merge:∀{more:oq (Key×V)}{rs:oq (Key×o7)}{kvs:oq (Key×V)}{vs:oq (Key×o7)},KV more rs->KV kvs vs->KV (J7 kvs more) (merged vs rs):=by
 intro more rs kvs vs r;unfold KV at r
 induction r generalizing kvs vs with
 |nil=>intro q;exact q
 | @cons p q ps qs h t ih=>
  intro O;have e:KV (lm kvs p.1 p.2) (gR vs q.1 q.2):=by
   have:=O.put p.1 h.2;rw[<-h.1];exact this
  exact ih e
def Xw:∀(more kvs:oq (Key×V)),↑(J7 kvs more)<=↑kvs+↑more
 | [],kvs=>by show ↑kvs<=↑kvs+0;omega
 |p::r,kvs=>by
  have h1:=Xw r (lm kvs p.1 p.2);have h2:=QY kvs p.1 p.2;show(J7 (lm kvs p.1 p.2) r).length<=_;rw[uB];omega
def WG {P:oh}{w:oj}:∀{kvs:oq (Key×V)}{ws:oq (o7×o7)},VV (kvs.map λkv=>(kV kv.1,kv.2)) ws->∃rs,Carries (Ql P w) ws rs/\KV kvs rs
 | [],_,r=>by rw[Ud] at r;cases r;exact[[]:Vr:.nil]
 |p::kvs,_,r=>by
  rw[uD] at r;cases r with
  | @cons a b as bs h t=>
   erw[WG (P:=P) (w:=w) t,rs,c,q];erw[b,b1,b2];exact[(p.1,b2)::rs:[Ko h.1:1:c]:.cons [1:h.2] q]
nonrec def Acj (trs:oq (TE×TE)):TE:=λσ H Q=>∀p,H p=U_->C8 trs σ (upd H p (.dK [])) λps H2=>H2 p=u_ (.dK [])/\∃kvs:oq (Key×V),ps=kvs.map (λkv=>(kV kv.1,kv.2))/\↑kvs<=15/\Q (.ref p) (upd H2 p (.dK (J7 [] kvs)))
def Oa {X:Cx}{pos:Pos}{keys:oq (ot Expr)}{O:oq Expr}{U:oq (TE×TE)}(h:PPs X pos keys O U)(Z:keys.all (·.isSome)=v_)(hl:↑keys=↑O)(h0:keys≠ [])
  (ac:↑keys<=15):PE X (.Dict keys O pos) (Acj U):=by
 exists 2,Q,I,q;have hn:=I.hok.fresh (uA #[0,s]);have I1:=I.laid (a:=#[0,s]) (o:= .dK []) (h':=s.heap.push {cls:= .type "dict",data:= .dict #[]}) (t':=s.toks) (λ_ _ q=>ud _ q) (uA _) (BQ s.heap I.big);refine wpAny_Dict_walk (knd:=Ql X.prog X.w) Z hl h0 ac (thn (h ou _ σ _ _ I1 (q _ hn)) λws s2 zq=>?_);erw[zq,ps,H2,I2,rel,e,kvs,ep,lk,q2];subst ep;erw[WG (P:=X.prog) (w:=X.w) rel,rs,c,rk];erw[CH I2.hok e,z,hd,ad,r0,dd];cases r0;exists rs,c,dd,λh' aa hs=>⟨.ref #[0,s],_,?_,1,q2⟩;have hz:↑(J7 [] kvs)<=sizeLine:=by
  have h1:=Xw kvs [];rw[UJ] at h1;rw[uE];omega
 have he:∃q,h'.get? #[0,s]=u_ q:=let⟨q,_,_,hq,_⟩:=aa;[q:hq];exact ZY I2 (by rw[e];exact Vr) hs he (wC hz hd (rk.merge .nil) aa)
structure M1 (X:Cx)(o:Expr)(m:Str)(apos:Pos)(e:Expr)(cpos:Pos):Prop where
 base:G9 o m X.env (eval o X.env)=eval o X.env
 few:((Vd cpos (V6 [e] X.env)).all (λx=> !x.1)&&(VT cpos (VY [] X.env)).all (λx=>x.1.isSome)
  &&decide (↑([e]:oq Expr)+↑([]:oq gS)+(if([]:oq gS).isEmpty then 0 else 1)<30))=v_
 line:(apos.endLine==cpos.line)=v_
 trees:Vd cpos (V6 [e] X.env)= [(V1,eval e X.env)]
structure M2 (X:Cx)(o:Expr)(m:Str)(apos:Pos)(e f:Expr)(cpos:Pos):Prop where
 base:G9 o m X.env (eval o X.env)=eval o X.env
 few:((Vd cpos (V6 [e,f] X.env)).all (λx=> !x.1)&&(VT cpos (VY [] X.env)).all (λx=>x.1.isSome)
  &&decide (↑([e,f]:oq Expr)+↑([]:oq gS)+(if([]:oq gS).isEmpty then 0 else 1)<30))=v_
 line:(apos.endLine==cpos.line)=v_
 trees:Vd cpos (V6 [e,f] X.env)= [(V1,eval e X.env),(V1,eval f X.env)]
nonrec def IsD (H:Hp)(a:o6):Prop:=(∃kvs,Rd H a (.dK kvs))∨∃kvs,Rd H a (.dT kvs)
def EG (I:#[I])(d:IsD H a):
  s.TypeIs (.ref a) "dict"/\(∀b,V7 a= .ref b->∃ob,s.heap.get? b=u_ ob/\ob.dict=U_)/\(a==Vn)=false:=by
 rcases d with⟨kvs,e⟩|⟨kvs,e⟩
 ·erw[su I.hok e,_,hd,vs,_,dd];exists dd.typeIs,λb q=>?_,hd;cases q;erw[dd,ob,_,_,h1,h2,_];exact[ob:h1:h2.2.1]
 ·erw[AF I.hok e,_,hd,xs,_,dd];exists dd.typeIs,λb q=>?_,hd;cases q;erw[dd,ob,_,_,h1,h2,_];exact[ob:h1:h2.2.1]
section
variable {X:Cx}{ou:oq (o6×Obj)}{σ:St}{H:Hp}{s:o9}{a:o6}{y d:V}{u r:o7}{o:ot V}{A:om}{E:o7->o9->Prop}
def Abs {Q:o7->o9->Prop}(hu:A.units+1<Vb)(I:#[I])(g:mM H a y o)(U:ik y u)(h:∀Z s',Inv X ou σ H s'->ik (o.getD .non) Z->Q Z s'):
  V2 #[X,X] A (call (.builtin "dict.get") [.ref a,u]) Q E s:=by
 rcases g with⟨kvs,k,e,O,l⟩|⟨kvs,k,b,e,O,eb,l⟩
 ·subst O;erw[su I.hok e,z,hd,vs,rel,dd];refine Hi PySem.F.slot_dict_get dd.typeIs PySem.F.entry_dict_get (PySem.F.args_dict_get_2 _ _) (meets_dict_get (Ql X.prog X.w) a (Ko U) hd) [_:dd.mapOf:h _ _ (I.tok _) ?_];rw[l];exact(rel.val k).getD rfl
 ·subst O;cases(show u=V7 b from U)
  erw[AF I.hok e,z,hd,xs,rel,dd];refine Hi PySem.F.slot_dict_get dd.typeIs PySem.F.entry_dict_get (PySem.F.args_dict_get_2 _ _) (meetsH_dict_get (Go (Ql X.prog X.w)) a b hd) ⟨Uj hu,k,xs,WH I.hok eb,dd,h _ _ (I.tok _) ?_⟩;rw[l];exact(rel.val k).getD rfl
end
inductive PV (ty:TE)(σ:St)(Q:VK)(x:V)(H1:Hp):Prop
 |mk (a:_)(_:x= .ref a)(_:IsD H1 a)(_:ty σ H1 λy H2=>∃o,mM H2 a y o/\Q (o.getD .non) H2)
nonrec def SD (td ty:TE):TE:=λσ H Q=>td σ H λx H1=>PV ty σ Q x H1
inductive PU (ty:TE)(σ:St)(Q:VK)(x:V)(H1:Hp):Prop
 |mk (a:_)(_:x= .ref a)(_:IsD H1 a)(_:ty σ H1 λy H2=>∃kvs k v,H2 a=u_ (.dK kvs)/\y=kV k/\iJ kvs k=u_ v/\Q v (upd H2 a (.dK (Jp kvs k))))
nonrec def Sx (td ty:TE):TE:=λσ H Q=>td σ H λx H1=>PU ty σ Q x H1
section
variable {X:Cx}{o e f:Expr}{apos cpos:Pos}{td ty tx:TE}
def kE (Z:X.A.units+1<Vb)(ho:PE X o td)(he:PE X e ty)(m:M1 X o "get" apos e cpos):PE X (.Call (.Attribute o "get" apos) [e] [] cpos) (SD td ty):=by
 exists 2,Q,I,h;refine Tq m.base m.few m.line UK PySem.F.slot_dict_get PySem.F.type_dict_get (thn (ho ou s σ H _ I h) λu s1 zq=>?_);erw[zq,x,H1,U,rx,a,ex,d,q1];subst ex;obtain rfl:u=V7 a:=rx;erw[EG U d,t1,t2,_];exists t1,t2;rw[m.trees];refine U1 rfl (U9 (Uh (thn (he ou s1 σ H1 _ U q1) λiv s2 ⟨y,H2,I2,ry,ov,g,q2⟩=>US ?_)));exact Abs Z I2 g ry λw' s3 I3 O=>⟨_,H2,I3,O,q2⟩
def KH (Z:PE X o td)(he:PE X e ty)(m:M1 X o "pop" apos e cpos):PE X (.Call (.Attribute o "pop" apos) [e] [] cpos) (Sx td ty):=by
 exists 2,Q,I,h;refine Tq m.base m.few m.line UK PySem.F.slot_dict_pop PySem.F.type_dict_pop (thn (Z ou s σ H _ I h) λu s1 zq=>?_);erw[zq,x,H1,U,rx,a,ex,d,q1];subst ex;obtain rfl:u=V7 a:=rx;erw[EG U d,t1,t2,_];exists t1,t2;rw[m.trees];refine U1 rfl (U9 (Uh (thn (he ou s1 σ H1 _ U q1) λiv s2 ⟨y,H2,I2,ry,kvs,k,v,ea,ey,l,q2⟩=>US ?_)));subst ey;exact Ac3 I2 ea ry l (.inl rfl) λw' s3 I3 O=>⟨v,_,I3,O,q2⟩
end
end L2
namespace Att
open PySem PySem.W PySem.Calls PyProof.Rows
variable {h:og}
def w9 {P:GU}:∀(ns:oq Int) (vs:oq o7),WellAll P h vs (ns.map WData.int)->gZ vs ns:=by
 intro ns
 induction ns with
 |nil=>
  intro vs w;rw[Ud] at w;cases w;exact .nil
 |cons n ns O=>
  intro vs w;rw[uD] at w;cases w with
  |cons a b=>
   cases a;exact .cons _ _ (O _ b)
def Dy {l:OpenLaw}{n:Nat}(hn:l.most=u_ n){P:GU}{h:og}{args:oq WData}{O:oq o7}
  (U:l.row.toRowW.claim.pre args=v_) (ac:WellAll P h O args):
  ∃a vs ns,O= [V7 a]/\args= [WData.list (ns.map WData.int)]/\h.get? a=u_ {cls:= .type "list",data:= .seq vs.toArray}/\gZ vs ns/\↑ns<=n:=by
 have ad:WShape.hasAll [] args [.list .int]=true:=(pre_splitW U).1;have hc:l.pre.holds [] {args:=args}=true:=(pre_splitW U).2;erw[hasAllW_cons ad,d,r,rfl,h1,h2];obtain rfl:=hasAllW_nil h2;erw[hasW_list h1,xs,rfl,h3];erw[items_int h3,ns,rfl];have Z:↑ns<=n:=by
  unfold OpenLaw.pre at hc;have h4:(WTm.not (.lt (.lit (.int (n:Int))) (.len (.arg 0)))).holds [] {args:= [.list (ns.map .int)]}=true:=by
   have h4:=(holds_andW hc).1;rwa[hn] at h4
  have h5:=condW_of h4 (w_not (w_lt w_lit (w_len_list (w_arg rfl))));rw[u9] at h5;refine Nat.le_of_not_lt λq=>?_;have q':(n:Int)<((↑ns:Nat):Int):=by omega
  first
   |(rw[uh q'] at h5;exact A8 h5 ())
   |(simp at h5;omega)
 cases ac with
 |cons w1 w2=>
  cases w2;cases w1 with
  |list ho aa=>exact⟨_,_,ns,1,1,ho,w9 ns _ aa,Z⟩
def DM (l:OpenLaw)(args:oq WData):l.row.toRowW.claim.post args (.bool v_) args=true:=
 postW_of (r:=l.row.toRowW) (X:=(v_==v_))
  (show WShape.has [] (.bool v_) .bool=v_ by first|rfl|decide|simp[WShape.has,WShape.arms,WShape.armsAll])
  (show(WTm.eq .res (.lit (.bool v_))).value [] {args:=args,res:=u_ (.bool v_),after:=args}=u_ (.bool (v_==v_)) from w_eq_bool (w_res rfl) w_lit) rfl
def attach_call {l:OpenLaw}{n:Nat}{q:oh}{O:oq Str}{XP:(Str->ot o7)->og->Prop}{YP:oj->og->Prop}{d:DefRec}
  (hn:l.most=u_ n) (ad:d.params.defaults= [])
  (call:∀(w:oj) (s₀ U:o9) (mg mb:Str->ot o7) (fa:o6) (o:Obj) (pm cd doc:o7) (a:o6) (vs:oq o7) (ns:oq Int),
   Ground q O [] XP w s₀ mg mb U.heap->YP w U.heap->
   U.heap.get? fa=u_ o->o.data= .func (docDef d.name d.params d.body d.scope pm cd doc)->U.heap.CodeRec cd d.name->mg d.name=u_ (.ref fa)->
   U.heap.get? a=u_ {cls:= .type "list",data:= .seq vs.toArray}->gZ vs ns->↑ns<=n->U.gens= #[]->
   VD (Vg l.prog w) gO (.call (.ref fa) [[.ref a]:[]]) (λr s'=>r= .ok (.ret (.bool v_))/\OldK U.heap s'.heap/\s'.os=U.os/\VO s'.gens) U):
  WalkO q O XP YP l.row.toRowW d [] (λf vs=>PySem.call f vs):=by
 intro w s₀ U mg mb G Y fa o pm cd doc dV kV ho hd ae hD af hg args ag as hpre hlay hrd hwl hlo;obtain rfl:dV= .none:=Dflts.none hD ad;obtain rfl:kV= .none:=Dflts.noKw hD;erw[Dy hn hpre hwl,a,vs,ns,rfl,rfl,aa,Z,ac];refine enter_call (Um (call w s₀ U mg mb fa o pm cd doc a vs ns G Y ho (fd_plain hd) ae af aa Z ac hg) λr s' hq=>?_);erw[hq,rfl,h2,h3,h4];exact⟨.inl ⟨.bool v_,.bool v_,[],1,λ_=>rfl,.bool v_,DM l _,λ_=>[Ru:λ_ hm=>(nomatch hm)]⟩,h2,h3,h4⟩
end Att
namespace L2
open PySem PySem.Spec PyProof.Rows
def nC:∀{vs:oq o7}{ns:oq Int},gZ vs ns->iq (ns.map V.int) vs
 |_,_,.nil=> .nil
 |_,_,.cons n t h=> .cons [t:1] (nC h)
nonrec def Ab6 (H:Hp):Prop:=∀b,H b=U_∨∃o xs,H b=u_ (.frz o (.lst xs))
def Ll {P:oh}{w:oj}{K:o0}{mg mb:Str->ot o7}{CX:CXT}{k:Nat}{fa a:o6}{fd:V4}{x:Str}{sp:Sp}{O:o9}{vs:oq o7}{ns:oq Int}
  (KX:K.In O.heap) (ae:O.heap.Ns Vo mg) (Z:O.heap.Ns tm mb) (am:∀x:Str,x≠"__name__"->mb x=Gy x) (af:O.heap.NoLimit) (hg:O.gens= #[])
  (ha:O.heap.get? a=u_ {cls:= .type "list",data:= .seq vs.toArray}) (hi:gZ vs ns) (hl:↑ns<=V5) (hr:mw k gO)
  (F:∀base:og,K.In base->base.Ns Vo mg->FnOk P w K mg base CX k fa fd [x] sp) (ad:∀(s:o9) (u:o7),Gj s fd [[u]:[]] [(x,u)])
  (ag:fd.scope.names.lookup x=u_ .local) (ao:∀H:Hp,Ab6 H->SqL K H a (ns.map V.int)->sp [.ref a] H (λv _=>v= .bl v_) λ_ _ _=>False)
  (ap:∀H e s',CX [] H O (λ_ _ _=>False) e s'->False):
  VD (Vg P w) gO (.call (.ref fa) [[.ref a]:[]]) (λr s'=>r= .ok (.ret (.bool v_))/\OldK O.heap s'.heap/\s'.os=O.os/\VO s'.gens) O:=by
 have rv:=nC hi;have ah:=↑hi;have ac:∀H:Hp,Ab6 H->SqL K H a (ns.map V.int)->HOk P w H O.heap->(∀b,H b≠U_->b=a)->(H a≠U_->K.lookup a=U_)->
   VD (Vg P w) gO (.call (.ref fa) [[.ref a]:[]]) (λr s'=>r= .ok (.ret (.bool v_))/\OldK O.heap s'.heap/\s'.os=O.os/\VO s'.gens) O:=by
  intro H hO hS hok hA hK;have U:∀{b:o6}{o:Obj},O.heap.get? b=u_ o->H b=U_->(Lr O.heap H).get? b=u_ o:=λe n=>Lq e n;have aq:∀{b:o6}{o:Obj}{es:Array Gg}{ep:Nat},O.heap.get? b=u_ o->o.data= .dict es ep->H b=none:=λ{b o es ep} e d=>by
   cases q:H b with
   |none=>rfl
   |some u=>
    have e':b=a:=hA b (by rw[q];simp)
    subst e';rw[ha] at e;cases e;have d':Data.seq vs.toArray _=Data.dict es ep:=d;cases d'
  have aa:∀{b:o6}{m:Str->ot o7},O.heap.Ns b m->(Lr O.heap H).Ns b m:=λ{b m} ⟨o,es,ep,e,d,r⟩=>⟨o,es,ep,U e (aq e d),d,r⟩;have ak:K.In (Lr O.heap H):=λb o e=>U (KX b o e) (by
   cases q:H b with
   |none=>rfl
   |some u=>
    have e':b=a:=hA b (by rw[q];simp)
    subst e';rw[hK (by rw[q];simp)] at e;cases e)
  have hM:Mod K mg (Lr O.heap H):=⟨ak,aa ae,[mb:aa Z:am],let⟨mc,h1,h2⟩:=af;[mc:aa h1:h2]⟩;have e0:P0 P w K mg (Lr O.heap H) gO [] O H:=⟨1,hM,λb o e=>OL e,Fy (EJ _ _),trivial,λb Z=>A8 (show b∈([]:oq o6) from Z) (by simp),hok,.of_eq hg⟩
  refine Um ((F _ ak (aa ae)).run gO [] O H [[.ref a]:[]] [.ref a] [.ref a] _ _ hr e0 (ad O (.ref a)) (.cons rfl .nil) (ao H hO hS) (.inr [_:0:ag])) λr s' h=>?_;cases r with
  |error e=>exact(ap H e s' h).elim
  |ok fl=>
   cases fl with
   |next=>exact Vk h
   |brk=>exact Vk h
   |cont=>exact Vk h
   |ret u=>
    erw[h,v,H',os,bare,htk,un,al,r',q];have q':v= .bl true:=q;subst q';obtain rfl:u=Gm true:=r';exists 1,OldK.of_keep λb o e=>?_,os,bare;cases q:H b with
    |none=>exact un.keep b o e q (by intro z;exact A8 (show b∈([]:oq o6) from z) (by simp)) (by simp)
    |some u=>
     rcases hO b with z|⟨ob,xs,z⟩
     ·rw[q] at z;cases z
     ·have z2:=un.frzs b ob _ z;erw[hok b _ z,e1,_];erw[al b _ z2,e2,_];rw[e] at e1;cases e1;exact e2
 cases hk:K.lookup a with
 |some o=>
  have e:=KX a o hk;rw[ha] at e;cases e;refine ac (λ_=>U_) (λ_=> .inl rfl) (.inr ⟨_,vs.toArray,_,hk,1,1,1,by rwa[ur,ah],by simpa using rv⟩) (λb u z=>by have z':(U_:ot HO)=u_ u:=z;cases z') (λb z=>A8 rfl z) λz=>A8 rfl z
 |none=>
  refine ac (λb=>if b=a then u_ (.frz {cls:= .type "list",data:= .seq vs.toArray} (.lst (ns.map V.int))) else U_) (λb=>?_) (.inl (.inr [{cls:= .type "list",data:= .seq vs.toArray}:A6 rfl])) (λb u z=>?_) (λb z=>?_) λ_=>hk
  ·by_cases Z:b=a
   ·exact .inr [_:_:A6 Z]
   ·exact .inl (A4 Z)
  ·by_cases Z:b=a
   ·have z':=(A6 Z).symm.trans z;cases z';subst Z;exact⟨ha,by rwa[u9],vs,_,rv,ha⟩
   ·have z':=(A4 Z).symm.trans z;cases z'
  ·by_cases Z:b=a
   ·exact Z
   ·exact A8 (A4 Z) z
noncomputable abbrev KOf {K:o0}{h:og}(_:K.In h):o0:=K
def MU {l:PySem.W.OpenLaw}{n k:Nat}{q:oh}{U:oq Str}{XP:(Str->ot o7)->og->Prop}{YP:oj->og->Prop}{d:DefRec}{K:GU->o0}{CX:oj->CXT}{sp:oj->Sp}{x:Str}
  (hn:l.most=u_ n) (ad:n<=V5) (ae:d.params.defaults= []) (hr:mw k gO)
  (hY:∀(w:oj) (h:og),YP w h->(K w.params).In h)
  (F:∀(w:oj) (mg:Str->ot o7) (fa:o6) (h:og),(K w.params).In h->h.Ns Vo mg->mg d.name=u_ (.ref fa)->
   ∃fd:V4,(∀(s:o9) (u:o7),Gj s fd [[u]:[]] [(x,u)])/\fd.scope.names.lookup x=u_ .local/\
    ∀base:og,(K w.params).In base->base.Ns Vo mg->FnOk l.prog w (K w.params) mg base (CX w) k fa fd [x] (sp w))
  (af:∀(w:oj) (H:Hp) (a:o6) (ns:oq Int),↑ns<=n->Ab6 H->SqL (K w.params) H a (ns.map V.int)->sp w [.ref a] H (λv _=>v= .bl v_) λ_ _ _=>False)
  (ag:∀(w:oj) (H:Hp) (s:o9) (e:o7) (s':o9),CX w [] H s (λ_ _ _=>False) e s'->False):
  PySem.W.WalkO q U XP YP l.row.toRowW d [] (λf vs=>PySem.call f vs):=by
 refine Att.attach_call hn ae λw s₀ s₁ mg mb fa o pm cd doc a vs ns G Y ho hd ak ah aa Z O hg=>?_;have KX:=hY w _ Y;erw[F w mg fa _ KX G.T.g ah,fd,hb,ac,hF];exact Ll KX G.T.g G.T.b G.T.builtins G.T.nolimit hg aa Z (vg O ad) hr hF hb ac (λH hO hS=>af w H a ns O hO hS) λH e s'=>ag w H s₁ e s'
def IH {l:PySem.W.OpenLaw}{n k:Nat}{q:oh}{O:oq Str}{XP:(Str->ot o7)->og->Prop}{YP:oj->og->Prop}{d:DefRec}{K:GU->o0}{CX:CXT}{sp:o0->Sp}{x:Str}
  (hn:l.most=u_ n) (U:n<=V5) (Z:d.params.defaults= []) (hr:mw k gO)
  (hY:∀(w:oj) (h:og),YP w h->(K w.params).In h)
  (F:∀(w:oj) (mg:Str->ot o7) (fa:o6) (h:og),(K w.params).In h->h.Ns Vo mg->mg d.name=u_ (.ref fa)->
   ∃fd:V4,(∀(s:o9) (u:o7),Gj s fd [[u]:[]] [(x,u)])/\fd.scope.names.lookup x=u_ .local/\
    ∀base:og,(K w.params).In base->base.Ns Vo mg->FnOk l.prog w (K w.params) mg base CX k fa fd [x] (sp (K w.params)))
  (aa:∀(K:o0) (H:Hp) (a:o6) (ns:oq Int),↑ns<=n->Ab6 H->SqL K H a (ns.map V.int)->sp K [.ref a] H (λv _=>v= .bl v_) λ_ _ _=>False)
  (ac:∀(H:Hp) (s:o9) (e:o7) (s':o9),CX [] H s (λ_ _ _=>False) e s'->False):
  PySem.W.WalkO q O XP YP l.row.toRowW d [] (λf vs=>PySem.call f vs):=
 MU (K:=K) (CX:=λ_=>CX) (sp:=λw=>sp (K w.params)) hn U Z hr hY F (λw H a ns h1 h2 h3=>aa (K w.params) H a ns h1 h2 h3) λ_ H s e s'=>ac H s e s'
nonrec def Qh (s:Stmt)(j:Nat):Stmt:=match s with
 | .ClassDef _ _ _ body _ _ _ _ _ _ _=>body.getD j (.Pass ⟨(0),(0),(0),(0)⟩)
 |_=> .Pass ⟨(0),(0),(0),(0)⟩
nonrec def YG (s:Stmt):Arguments:=match s with
 | .FunctionDef _ a _ _ _ _ _ _ _ _=>a
 |_=>{posonlyargs:= [],args:= [],vararg:=U_,kwonlyargs:= [],kw_defaults:= [],kwarg:=U_,defaults:= []}
nonrec def yZ (s:Stmt):oq Stmt:=match s with
 | .FunctionDef _ _ b _ _ _ _ _ _ _=>b
 |_=> []
nonrec def qj (s:Stmt):Scope:=match s with
 | .FunctionDef _ _ _ _ _ _ sc _ _ _=>sc
 |_=>{kind:= .function,names:= [],isGenerator:=V1,isCoroutine:=V1}
noncomputable abbrev CX0:CXT:=λ_ _ _ _ _ _=>False
noncomputable abbrev E0:XK:=λ_ _ _=>False
variable {X:Cx}
def qE:Xq CX0 X E0:=λ_ _ _ _ _ _ _ h=>h.elim
structure Fun (K:o0)(x qual:Str)(st:Stmt)(f:o6)(fd:V4):Prop where
 ex:∃(oc:o7) (od:ot o6) (kV doc pm:o7) (an:ot o6) (cdv ct:o7) (osl:Array (ot o7)),
  fd=PySem.W.fnOf x qual (YG st) (yZ st) (qj st) .none kV doc pm an cdv ct/\K.lookup f=u_ ⟨oc,od,.func fd,osl⟩/\PySem.W.codeIn K cdv qual=v_
 kp:PySem.W.keepIn K (.ref f)=v_
section
variable {P:oh}{w:oj}{K:o0}{mg:Str->ot o7}{base:og}
def Fun.ok {x qual:Str}{st:Stmt}{f:o6}{fd:V4}{N ps:oq Str}{k:Nat}{sp:Sp}(F:Fun K x qual st f fd)(S:qt N ps (qj st))(len:∀vs H Q E,sp vs H Q E->↑vs=↑ps)
  (O:∀(cdv:o7) (A:om) (outer:oq Env) (s:o9) (H:Hp) (vs:oq V) (Q:VK) (E:XK),mw k (A.deeper (V8 qual (qj st) #[0,s] f cdv))->sp vs H Q E->
   ∃t,PSs (cxOf CX0 P w K mg base N qual (qj st) f cdv A outer s H E).nox (yZ st) t/\t {nx:=λ_ H'=>Q .non H',rt:=Q} (Kq N vs) H):FnOk P w K mg base CX0 (k+1) f fd ps sp:=by
 erw[F.ex,oc,od,kV,doc,pm,an,cdv,ct,osl,rfl,lk,U];refine Abk lk U S len λA outer s H vs Q E hr Z=>?_;erw[O cdv A outer s H vs Q E hr Z,t,h,q];exact[t:h.nox:q]
def Fun.binds {x qual:Str}{st:Stmt}{f:o6}{fd:V4}{ps:oq Str}(F:Fun K x qual st f fd)
  (h:∀(kV doc pm:o7) (an:ot o6) (cdv ct:o7) (us:oq o7),↑us=↑ps->gU (PySem.W.fnOf x qual (YG st) (yZ st) (qj st) .none kV doc pm an cdv ct) [us:[]]=pure (ps.zip us)):xM K fd ps []:=by
 erw[F.ex,oc,od,kV,doc,pm,an,cdv,ct,osl,rfl,lk,O];exact .all (h kV doc pm an cdv ct)
def MF {x qual:Str}{st:Stmt}{f:o6}{oc:o7}{od an:ot o6}{osl:Array (ot o7)}{kV doc pm cdv ct:o7}(l:K.lookup f=u_ ⟨oc,od,.func (PySem.W.fnOf x qual (YG st) (yZ st) (qj st) .none kV doc pm an cdv ct),osl⟩)
  (c:PySem.W.codeIn K cdv qual=v_) (k:PySem.W.keepIn K (.ref f)=v_):Fun K x qual st f (PySem.W.fnOf x qual (YG st) (yZ st) (qj st) .none kV doc pm an cdv ct):=[⟨oc,od,kV,doc,pm,an,cdv,ct,osl,1,l,c⟩:k]
end
variable {A:om}
def Qs {k:Nat}(O:mw k A):A.units+1<cLine:=U6 (Nat.add_le_add_left (by decide:1<=64) _) O.units
variable {n:Nat}
def X0 (h:n<=1000):n<sizeLine:=U6 h ()
section
variable {X:Cx}
def pv (i:Nat){x:Str}{pos:Pos}(U:X.N[i]? =u_ x:=by rfl)(Z:Vis X.env.scope x:=by first|exact Hv rfl|exact VU (Hv rfl)|exact VU (VU rfl))(hd:(x==("__debug__":Str))=false:=by decide)
  (O:(x==("__classdict__":Str))=false:=by decide):PE X (.Name x pos) (Sm i):=Aax U Z hd O
def Im:jg X (.builtin "len") (λxs H Q=>∃a kvs,xs= [V.ref a]/\H a=u_ (.dK kvs)/\Q (.int ↑kvs) H):=by
 exists 2,xs,us,Q,I,r,h;erw[h,a,kvs,rfl,ha,q];erw[jZ r,u,rfl,ru];cases ru;exact Ac4 I (.inl ha) λt s' O=>⟨.int ↑kvs,H,O,[t:1],q⟩
end
def iU {A B:Prop}(h:B):if V1=v_ then A else B:=by
 rw[A4 ub];exact h
def lq {A B:Prop}(h:A):if v_=v_ then A else B:=by
 rw[A6 rfl];exact h
def nj {c A B:Prop}[Decidable c](h1:c->A)(h2:¬c->B):if c then A else B:=by
 by_cases h:c
 ·rw[A6 h];exact h1 h
 ·rw[A4 h];exact h2 h
nonrec def ig (H H':Hp):Prop:=∀b o,H b=u_ o->H' b=u_ o
def ig.refl (H:Hp):ig H H:=λ_ _ h=>h
variable {H H1 H2:Hp}
def ig.trans (a:ig H H1)(b:ig H1 H2):ig H H2:=λc o h=>b c o (a c o h)
variable {H':Hp}{l:o6}
def ig.free (e:ig H H')(h:H' l=Option.none):H l=Option.none:=by
 cases q:H l with
 |none=>rfl
 |some o=>
  rw[e l o q] at h;cases h
section
variable {κ:Type}[DecidableEq κ]
variable {kvs:oq (κ×V)}{v:V}
def C0 {k:κ}(h:iJ kvs k=u_ v):k∈kvs.map (·.1):=by
 have q:(kvs.any λkv=>decide (kv.1=k))=true:=by
  rw[JN,h]
  all_goals rfl
 erw[List.any_eq_true.mp q,p,O,e];exact Ae.mpr [p:O:uq e]
def Fr {p:κ×V}{r:oq (κ×V)}{k:κ}(e:p.1=k):Jp (p::r) k=Jp r k:=by
 unfold Jp;rw[vS,A4 (by simp[e])]
def Ia {p:κ×V}{r:oq (κ×V)}{k:κ}(e:¬p.1=k):Jp (p::r) k=p::Jp r k:=by
 unfold Jp;rw[vS,A6 (by simp[e])]
end
end L2
namespace L2
open PySem
inductive D where
 |non|bl (b:Bool)|int (i:Int)|str (z:Str)|lst|dct|tup (xs:List D)
nonrec def QV (c:Nat):Bool:=decide (32<=c)&&decide (c<=126)&&decide (c≠37)
nonrec def Q3 (z:Str):Bool:=decide (↑z<=300)&&z.cps.toList.all QV
mutual
noncomputable def lp:D->Bool
 | .str z=>Q3 z
 | .tup xs=>decide (↑xs<=40)&&goodL xs
 |_=>V1
noncomputable def goodL:oq D->Bool
 | []=>v_
 |x::r=>lp x&&goodL r
end
mutual
noncomputable def sz:D->Nat
 | .str z=>↑z+1
 | .tup xs=>1+szL xs
 |_=>0
noncomputable def szL:oq D->Nat
 | []=>0
 |x::r=>sz x+szL r
end
mutual
noncomputable def dp:D->Nat
 | .str _=>1
 | .tup xs=>1+dpL xs
 |_=>0
noncomputable def dpL:oq D->Nat
 | []=>0
 |x::r=>max (dp x) (dpL r)
end
mutual
noncomputable def nd:D->Nat
 | .tup xs=>1+ndL xs
 |_=>1
noncomputable def ndL:oq D->Nat
 | []=>0
 |x::r=>nd x+ndL r
end
nonrec def isT (d:D):Bool:=lp d&&decide (sz d<=600)&&decide (dp d<=12)
def zh:∀(xs ys:oq D),szL (xs++ys)=szL xs+szL ys
 | [],ys=>by simp[szL]
 |x::r,ys=>by simp![Ux,szL,zh r ys];omega
def X9:∀(xs ys:oq D),ndL (xs++ys)=ndL xs+ndL ys
 | [],ys=>by simp[ndL]
 |x::r,ys=>by simp![Ux,ndL,X9 r ys];omega
def Z3 {k:Nat}:∀(xs:oq D),dpL xs<=k↔∀x∈xs,dp x<=k
 | []=>by simp[dpL]
 |x::r=>by
  have U:=Z3 (k:=k) r;have e:dpL (x::r)=max (dp x) (dpL r):=by simp![dpL]
  rw[e];constructor
  ·intro h y O;rcases Aa.mp O with rfl|O
   ·omega
   ·exact U.mp () y O
  ·intro h;have h1:=h x ui;have h2:=U.mpr λy O=>h y (uj _ O);omega
def Abo {d:D}(h:lp d=v_):1<=dp d:=by
 cases d<;>simp_all [lp,dp]
nonrec def wOk (w:oq (D×Nat)):Bool:=w.all λp=>lp p.1&&decide (p.2+dp p.1<=13)
nonrec def wSz (w:oq (D×Nat)):Nat:=szL (w.map (·.1))
nonrec def G (w:oq (D×Nat))(n:Nat):Bool:=wOk w&&decide (n+wSz w<=600)
def PX (d:D):G [(d,1)] 0=isT d:=by
 simp![G,wOk,wSz,isT,vM,Fa,uD,Ud,szL,Uu,TF,Rb];have e:decide (1+dp d<=13)=decide (dp d<=12):=by
  rw[vd];omega
 rw[e];cases lp d<;>cases decide (sz d<=600)<;>cases decide (dp d<=12)<;>rfl
variable {n:Nat}
def Adj (h:n<=600):G [] n=true:=by simp[G,wOk,wSz,szL,h]
def sR (w:oq (D×Nat))(d:D)(k n:Nat):G (w++ [(d,k)]) n=(wOk w&&(lp d&&decide (k+dp d<=13))&&decide (n+(wSz w+sz d)<=600)):=by
 simp![G,wOk,wSz,Tp,vM,Fa,Uu,um,uD,Ud,zh,szL,Rb]
 rfl
def PY {w:oq (D×Nat)}{d:D}{k:Nat}(h:lp d=V1):G (w++ [(d,k)]) n=false:=by
 rw[sR,h];simp
def MQ {w:oq (D×Nat)}{d:D}{k:Nat}(h:12<k):G (w++ [(d,k)]) n=false:=by
 rw[sR];cases O:lp d with
 |false=>simp
 |true=>
  have:=Abo O;have e:decide (k+dp d<=13)=false:=ug ()
  rw[e];simp
def AbX {w:oq (D×Nat)}{d:D}{k:Nat}(h:600<n+sz d):G (w++ [(d,k)]) n=false:=by
 rw[sR];have e:decide (n+(wSz w+sz d)<=600)=false:=ug ()
 rw[e];simp
def AbW {w:oq (D×Nat)}{xs:oq D}{k:Nat}(h:600<n+1):G (w++ [(.tup xs,k)]) n=false:=AbX (by simp![sz];omega)
def MW (xs:oq D)(k:Nat):wOk (xs.map λx=>(x,k+1))=(goodL xs&&xs.all λx=>decide (k+1+dp x<=13)):=by
 induction xs with
 |nil=>rfl
 |cons x r O=>
  simp![uD,wOk,vM,goodL] at O⊢;rw[O];cases lp x<;>cases decide (k+1+dp x<=13)<;>cases goodL r<;>simp
def MV (xs:oq D)(k:Nat):wSz (xs.map λx=>(x,k+1))=szL xs:=by
 unfold wSz;rw[uO]
 congr 1
 induction xs with
 |nil=>rfl
 |cons x r O=>simp![uD,O];rfl
def Adh {w:oq (D×Nat)}{xs:oq D}{k:Nat}(U:↑xs<=40)(hk:k<=12):G (w++ [(.tup xs,k)]) n=G (w++xs.map λx=>(x,k+1)) (n+1):=by
 rw[sR];unfold G;have Z:wOk (w++xs.map λx=>(x,k+1))=(wOk w&&wOk (xs.map λx=>(x,k+1))):=by unfold wOk;rw[Tp]
 have e2:wSz (w++xs.map λx=>(x,k+1))=wSz w+szL xs:=by
  have:=MV xs k;unfold wSz at this⊢;rw[um,zh,this]
 have e3:decide (k+dp (.tup xs)<=13)=xs.all λx=>decide (k+1+dp x<=13):=by
  have q:=Z3 (k:=12-k) xs;have e0:dp (.tup xs)=1+dpL xs:=by simp![dp]
  rw[e0,vO];constructor
  ·intro h;have h:=uq h;refine List.all_eq_true.mpr λx O=>uh ?_;have h2:=q.mp () x O
   omega
  ·intro h;refine uh ?_;have h2:=q.mpr λx O=>by
    have h3:=uq (List.all_eq_true.mp h x O);omega
   omega
 rw[Z,e2,e3,MW];have e4:lp (.tup xs)=goodL xs:=by simp![lp,uh U,Fg]
 have e5:decide (n+(wSz w+sz (.tup xs))<=600)=decide (n+1+(wSz w+szL xs)<=600):=by
  rw[vd];simp![sz];omega
 rw[e4,e5]
variable {z:Str}
def Adi {w:oq (D×Nat)}{k:Nat}(O:Q3 z=v_)(hk:k<=12):G (w++ [(.str z,k)]) n=G w (n+(1+↑z)):=by
 rw[sR];unfold G;have U:lp (.str z)=true:=by simp![lp,O]
 have e3:decide (k+dp (.str z)<=13)=true:=uh (by simp![dp];omega)
 have Z:decide (n+(wSz w+sz (.str z))<=600)=decide (n+(1+↑z)+wSz w<=600):=by
  rw[vd];simp![sz];omega
 rw[U,e3,Z];simp
end L2
namespace AwZ
open PySem PyProof.Rows
open PySem.AutoSeq1 (wpAny_loadPart')
section
variable {prog:oh}{w:oj}{A:om}{E:o7->o9->Prop}{s:o9}
def Sk {j t:o6}{i:Nat}{its:Array o7}{x:o7}{Q:o7->o9->Prop}(U:s.heap.IsTupleIter j t i)(gt:s.heap.IsTuple t its)(gx:its[i]? =u_ x)
  (q:∀h2,h2.IsTupleIter j t (i+1)->VF j s.heap h2->Q x {s with heap:=h2}):V2 #[w,w] A (Gf (.ref j)) Q E s:=by
 erw[id U,u,O,cu,du];erw[gt,ut,Z,_,nt,aa];unfold Gf;refine A7 (vk (name:=gY "__next__") U.typeIs U2
  (vF U2 U.typeIs F.entry_tuple_iterator_next ?_ (F.args_tuple_iterator_next_1 _)))
 show V2 _ _ (Vx (.ref j) 0>>=_) _ _ s;refine A7 (vj O du (x:= .ref t) rfl ?_);show V2 _ _ (if(V7 t==VL)=v_ then _ else _) _ _ s
 rw[A4 (show¬(V7 t==VL)=v_ from ub)]
 show V2 _ _ (Vx (.ref j) 1>>=_) _ _ s;refine A7 (vj O du (x:= .int i 0) rfl ?_);show V2 _ _ (tP (.ref t)>>=_) _ _ s;refine A7 (Uf Z aa ?_);simp![tI,gx];refine A7 (TR O du (by simp) (uF [x:1:uF (q _ ?_ (TY ..))]))
 exact⟨_,Te _ O (Obj.isFreed_of_fields (r6 du _)),(Obj.cls_mapFields ..).trans cu,by rw[r6 du];simp[Vw]⟩
def nH {j t:o6}{i:Nat}{its:Array o7}{Q:o7->o9->Prop}(hh:A.handled=U_)(O:s.heap.IsTupleIter j t i)(gt:s.heap.IsTuple t its)(gx:its[i]? =U_)
  (q:∀h2 e,Rg j s.heap h2->(∃u,h2.get? e=u_ u/\u.cls= .type "StopIteration")->E (.ref e) {s with heap:=h2}):V2 #[w,w] A (Gf (.ref j)) Q E s:=by
 erw[id O,u,U,cu,du];erw[gt,ut,Z,_,nt,aa];unfold Gf;refine A7 (vk (name:=gY "__next__") O.typeIs U2
  (vF U2 O.typeIs F.entry_tuple_iterator_next ?_ (F.args_tuple_iterator_next_1 _)))
 show V2 _ _ (Vx (.ref j) 0>>=_) _ _ s;refine A7 (vj U du (x:= .ref t) rfl ?_);show V2 _ _ (if(V7 t==VL)=v_ then _ else _) _ _ s
 rw[A4 (show¬(V7 t==VL)=v_ from ub)]
 show V2 _ _ (Vx (.ref j) 1>>=_) _ _ s;refine A7 (vj U du (x:= .int i 0) rfl ?_);show V2 _ _ (tP (.ref t)>>=_) _ _ s;refine A7 (Uf Z aa ?_);simp![tI,gx];refine A7 (UC (A7 (TR U du (by simp) ?_)))
 show V2 _ _ (newExc (.type "StopIteration") []>>=_) _ _ _;refine A7 ?_;simp![newExc,tK];refine A7 (vz ?_ (by size_fits))
 refine A7 (m:=Ta _ _) (tH (a:=VL) (by first|rfl|(simp![Ta];rfl)) ?_)
 refine vz ?_ (by size_fits)
 simp![raiseNew];refine A7 (wpAny_handled ?_)
 first|rw[show A.in1.handled=U_ from hh]|rw[hh]
 refine A7 (uF (rG ?_));exact q _ _ (((TY ..).extBut.push _).push _) [_:uL _ rfl:1]
structure Apt (z p r i j a b:o6):Prop where
 pz:p≠z
 rz:r≠z
 iz:i≠z
 jz:j≠z
 pr:p≠r
 pi:p≠i
 pj:p≠j
 ri:r≠i
 rj:r≠j
 ij:i≠j
 az:a≠z
 ar:a≠r
 ai:a≠i
 aj:a≠j
 bz:b≠z
 br:b≠r
 bi:b≠i
 bj:b≠j
def Ab9 {z p r i j a b:o6}{k:Nat}{xs ys:Array o7}{x y u v:o7}{Q:o7->o9->Prop}(D:Apt z p r i j a b)
  (hz:Vs s.heap z p r .none) (hp:Vh s.heap p (.ref i) (.ref j)) (hr:Vh s.heap r u v)
  (hi:s.heap.IsTupleIter i a k) (hj:s.heap.IsListIter j b k) (ha:s.heap.IsTuple a xs) (hb:s.heap.IsList b ys) (hx:xs[k]? =u_ x) (hy:ys[k]? =u_ y)
  (q:∀h2,Vs h2 z p r (Vw #[0,s])->Vh h2 r x y->h2.IsTupleIter i a (k+1)->h2.IsListIter j b (k+1)->Vh h2 #[0,s] x y->h2.objs.size=#[0,s]+1->
   (∀c o,c≠z->c≠r->c≠i->c≠j->s.heap.get? c=u_ o->h2.get? c=u_ o)->Q (.ref #[0,s]) {s with heap:=h2}):
  V2 #[w,w] A (VI.«zip.__next__» [[.ref z]:[]]) (λfin t=>∃v,fin= .done (.ret v)/\Q v t) E s:=by
 show V2 _ _ (Vx (.ref z) 2>>=_) _ _ _;refine A7 (vj hz rfl (x:= .bool V1) rfl ?_);show V2 _ _ (Vx (.ref z) 3>>=_) _ _ _;refine A7 (vj hz rfl (x:= .ref p) rfl ?_);refine A7 (Uf hp rfl ?_);show V2 _ _ (Gn (.ref z)>>=_) _ _ s;refine A7 ?_;unfold Gn;refine A7 (vj hz rfl (x:= .none) rfl (uF ?_));simp![if_true];refine A7 (UC ?_);refine A7 (vj hz rfl (x:= .ref r) rfl ?_);refine A7 (vp hz (by simp) λh1 z1 s1=>?_)
 replace z1:Vs h1 z p r .ellipsis:=z1
 refine A7 ?_;simp![RP,Fo,Uo,Fj];refine A7 (A7 (HY ?_));show V2 _ _ (Gf (.ref i)>>=_) _ _ _;refine A7 (Sk (hi.extBut s1.extBut D.iz) (ha.extBut s1.extBut D.az) hx λh2 i2 s2=>uF ?_);have r2:Vh h2 r u v:=s2.extBut _ _ D.ri (s1.extBut _ _ D.rz hr);refine A7 (Uf r2 rfl ?_);refine A7 (rJ r2 λh3 r3 U=>?_)
 replace r3:Vh h3 r x v:=r3
 refine A7 (tL (uF ?_));refine A7 (A7 (HY ?_));show V2 _ _ (Gf (.ref j)>>=_) _ _ _;refine A7 (wpAny_nextOf_list_item (((hj.extBut s1.extBut D.jz).extBut s2.extBut D.ij.symm).extBut U.extBut D.rj.symm)
  (((hb.extBut s1.extBut D.bz).extBut s2.extBut D.bi).extBut U.extBut D.br) hy λh4 j4 Z=>uF ?_)
 have r4:Vh h4 r x v:=Z.extBut _ _ D.rj r3;refine A7 (Uf r4 rfl ?_);refine A7 (rJ r4 λh5 r5 s5=>?_)
 replace r5:Vh h5 r x y:=r5
 refine A7 (tL (uF (uF ?_)));refine A7 (Uf r5 rfl ?_);refine A7 (RI ?_);have sz:h5.objs.size=#[0,s]:=by rw[s5.1,Z.1,U.1,s2.1,s1.1]
 have z5:Vs h5 z p r .ellipsis:=s5.extBut _ _ D.rz.symm (Z.extBut _ _ D.jz.symm (U.extBut _ _ D.rz.symm (s2.extBut _ _ D.iz.symm z1)));have k5:∀c o,c≠z->c≠r->c≠i->c≠j->s.heap.get? c=u_ o->h5.get? c=u_ o:=λc o O c2 c3 c4 e=>
  s5.extBut _ _ c2 (Z.extBut _ _ c4 (U.extBut _ _ c2 (s2.extBut _ _ c3 (s1.extBut _ _ O e))))
 have i5:h5.IsTupleIter i a (k+1):=((i2.extBut U.extBut D.ri.symm).extBut Z.extBut D.ij).extBut s5.extBut D.ri.symm;have j5:h5.IsListIter j b (k+1):=j4.extBut s5.extBut D.rj.symm;have aa:z<h5.objs.size:=uK z5;show V2 _ _ (GY (.ref z) (.ref h5.objs.size)>>=_) _ _ _;refine A7 ?_;unfold GY;have z6:Vs (h5.push {cls:= .type "tuple",data:= .seq #[x,y]}) z p r .ellipsis:=ud _ z5;refine A7 (vp z6 (by simp) λh7 z7 s7=>?_)
 replace z7:Vs h7 z p r (Vw h5.objs.size):=z7
 refine vp z7 (by simp) λh8 z8 s8=>?_
 replace z8:Vs h8 z p r (Vw h5.objs.size):=z8
 have up:∀c o,c≠z->h5.get? c=u_ o->h8.get? c=u_ o:=λc o O e=>s8.extBut _ _ O (s7.extBut _ _ O (ud _ e));have t8:Vh h8 h5.objs.size x y:=s8.extBut _ _ (U4 aa) (s7.extBut _ _ (U4 aa) (uL _ rfl));have n8:h8.objs.size=h5.objs.size+1:=by rw[s8.1,s7.1,vo]
 rw[sz] at z8 t8 n8;refine uF [0:?_];show Q (.ref h5.objs.size) _;rw[sz];exact q h8 z8 (up _ _ D.rz r5) (by erw[i5,o,e,g];exact[o:up _ o D.iz e:g]) (j5.at λo e=>up _ o D.jz e) t8 n8 λc o O c2 c3 c4 e=>up c o O (k5 c o O c2 c3 c4 e)
def zip_go {z p r i j a b:o6}{k:Nat}{xs ys:Array o7}{x y u v:o7}{Q:ot o7->o9->Prop}(D:Apt z p r i j a b)
  (hz:Vs s.heap z p r .none) (U:Vh s.heap p (.ref i) (.ref j)) (Z:Vh s.heap r u v)
  (hi:s.heap.IsTupleIter i a k) (hj:s.heap.IsListIter j b k) (ha:s.heap.IsTuple a xs) (hb:s.heap.IsList b ys) (hx:xs[k]? =u_ x) (hy:ys[k]? =u_ y)
  (q:∀h2,Vs h2 z p r (Vw #[0,s])->Vh h2 r x y->h2.IsTupleIter i a (k+1)->h2.IsListIter j b (k+1)->Vh h2 #[0,s] x y->h2.objs.size=#[0,s]+1->
   (∀c o,c≠z->c≠r->c≠i->c≠j->s.heap.get? c=u_ o->h2.get? c=u_ o)->Q (u_ (.ref #[0,s])) {s with heap:=h2}):
  V2 #[w,w] A (Vu (.ref z)) Q E s:=by
 have O:s.TypeIs (.ref z) "zip":=[_:hz:1];unfold Vu;exact A7 (UL (vk (name:=gY "__next__") O F.slot_zip_next
  (vF F.slot_zip_next O F.entry_zip_next (Ab9 D hz U Z hi hj ha hb hx hy λh2 b1 b2 b3 b4 b5 b6 b7=>uF (q h2 b1 b2 b3 b4 b5 b6 b7)) (F.args_zip_next_1 _))))
def zip_stop {z p r i j a b:o6}{k:Nat}{xs:Array o7}{Q:ot o7->o9->Prop}(hh:A.handled=U_)(D:Apt z p r i j a b)
  (hz:Vs s.heap z p r .none) (hp:Vh s.heap p (.ref i) (.ref j)) (hi:s.heap.IsTupleIter i a k) (ha:s.heap.IsTuple a xs) (hx:xs[k]? =U_)
  (q:∀h2,(∀c o,c≠z->c≠r->c≠i->c≠j->s.heap.get? c=u_ o->h2.get? c=u_ o)->Q U_ {s with heap:=h2}):V2 #[w,w] A (Vu (.ref z)) Q E s:=by
 have Z:s.TypeIs (.ref z) "zip":=[_:hz:1];unfold Vu;refine A7 (UL (vk (name:=gY "__next__") Z F.slot_zip_next
  (vF F.slot_zip_next Z F.entry_zip_next ?_ (F.args_zip_next_1 _))))
 show V2 _ _ (Vx (.ref z) 2>>=_) _ _ _;refine A7 (vj hz rfl (x:= .bool V1) rfl ?_);show V2 _ _ (Vx (.ref z) 3>>=_) _ _ _;refine A7 (vj hz rfl (x:= .ref p) rfl ?_);refine A7 (Uf hp rfl ?_);show V2 _ _ (Gn (.ref z)>>=_) _ _ s;refine A7 ?_;unfold Gn;refine A7 (vj hz rfl (x:= .none) rfl (uF ?_));simp![if_true];refine A7 (UC ?_);refine A7 (vj hz rfl (x:= .ref r) rfl ?_);refine A7 (vp hz (by simp) λh1 O s1=>?_)
 replace O:Vs h1 z p r .ellipsis:=O
 refine A7 ?_;simp![RP,Fo,Uo,Fj];refine A7 (A7 (HY ?_));show V2 _ _ (Gf (.ref i)>>=_) _ _ _;refine A7 (nH hh (hi.extBut s1.extBut D.iz) (ha.extBut s1.extBut D.az) hx λh2 e s2 he=>?_);erw[he,oe,U,ce];have z2:Vs h2 z p r .ellipsis:=s2 _ _ D.iz.symm O;have ez:e≠z:=λx=>by subst x;rw[z2] at U;cases U;simp at ce
 refine vp z2 (by simp) λh3 _ s3=>?_
 refine A7 (Uy (T:="StopIteration") (b:=v_) [oe:s3.extBut _ _ ez U:ce] Ft ?_);exact uF (q _ λc o c1 _ c3 _ x=>s3.extBut _ _ c1 (s2 _ _ c3 (s1.extBut _ _ c1 x)))
noncomputable abbrev q1 (h:og)(a:o6):og:=h.push {cls:= .type "tuple_iterator",data:= .fields #[.ref a,.int 0 0]}
noncomputable abbrev q2 (h:og)(a b:o6):og:=(q1 h a).push {cls:= .type "list_iterator",data:= .fields #[.ref b,.int 0 0]}
noncomputable abbrev q3 (h:og)(a b:o6):og:=(q2 h a b).push {cls:= .type "tuple",data:= .seq #[.ref h.objs.size,.ref (q1 h a).objs.size]}
noncomputable abbrev q4 (h:og)(a b:o6):og:=(q3 h a b).push {cls:= .type "tuple",data:= .seq #[.none,.none]}
noncomputable abbrev q5 (h:og)(a b:o6):og:=(q4 h a b).push {cls:= .type "zip",data:= .fields #[.none,.bool V1,.bool V1,.ref (q2 h a b).objs.size,.ref (q3 h a b).objs.size]}
def IC (a b:o6)(xs ys:Array o7):Gz (VI.«zip.__new__» [[.type "zip",.ref a,.ref b]:[]]) (λ_ R s=>s.heap.IsTuple a xs/\s.heap.IsList b ys/\R (.ok (.ret (.ref (q4 s.heap a b).objs.size))) {s with heap:=q5 s.heap a b}):=
 .of_wp λprog w A R s h=>by
  erw[s,O,g,d,tk,os];erw[h,ha,U,h];have sub:=sub_zip;have h1:FK (HZ ⟨O,g,d,tk,os⟩) a xs:=ha;have h2:Heap.IsList (HZ ⟨O.push {cls:= .type "tuple_iterator",data:= .fields #[.ref a,.int 0 0]},g,d,tk,os⟩) b ys:=pW U _
  wp_walk using U5 h1,UR h2
  exact[0:h]
def zip_call {a b:o6}{xs ys:Array o7}{Q:o7->o9->Prop}(ha:s.heap.IsTuple a xs)(hb:s.heap.IsList b ys)
  (h:∀h2,Vs h2 (#[0,s]+4) (#[0,s]+2) (#[0,s]+3) .none->Vh h2 (#[0,s]+2) (.ref #[0,s]) (.ref (#[0,s]+1))->
   Vh h2 (#[0,s]+3) .none .none->h2.IsTupleIter #[0,s] a 0->h2.IsListIter (#[0,s]+1) b 0->h2.objs.size=#[0,s]+5->
   (∀c o,s.heap.get? c=u_ o->h2.get? c=u_ o)->Q (.ref (#[0,s]+4)) {s with heap:=h2}):V2 #[w,w] A (call (.type "zip") [.ref a,.ref b]) Q E s:=by
 refine callType_new F.called_zip () (F.typeCall_zip_2 _ _) (F.newCall_zip_2 _ _) (λobj=>F.args_object_init_3 obj _ _) F.entry_zip_new (IC a b xs ys) [ha:hb:?_]
 have O:(q1 s.heap a).objs.size=#[0,s]+1:=vo ..;have U:(q2 s.heap a b).objs.size=#[0,s]+2:=by rw[vo,O]
 have Z:(q3 s.heap a b).objs.size=#[0,s]+3:=by rw[vo,U]
 have z4:(q4 s.heap a b).objs.size=#[0,s]+4:=by rw[vo,Z]
 have z5:(q5 s.heap a b).objs.size=#[0,s]+5:=by rw[vo,z4]
 have g5:(q5 s.heap a b).get? (q4 s.heap a b).objs.size=u_ _:=uL _ rfl;have g4:(q5 s.heap a b).get? (q3 s.heap a b).objs.size=u_ _:=ud _ (uL _ rfl);have g3:(q5 s.heap a b).get? (q2 s.heap a b).objs.size=u_ _:=ud _ (ud _ (uL _ rfl));have g2:(q5 s.heap a b).get? (q1 s.heap a).objs.size=u_ _:=ud _ (ud _ (ud _ (uL _ rfl)));have g1:(q5 s.heap a b).get? #[0,s]=u_ _:=ud _ (ud _ (ud _ (ud _ (uL _ rfl))));show _/\_;rw[U,Z,z4] at g5;rw[O,U] at g3;rw[Z] at g4;rw[O] at g2;rw[z4];exact[[_:g5:1]:h _ g5 g3 g4 ⟨_,g1,1,1⟩ ⟨_,g2,1,1⟩ z5 λc o x=>ud _ (ud _ (ud _ (ud _ (ud _ x))))]
def Ac0 {e j t:o6}{i:Nat}{c:Int}{its:Array o7}{x O:o7}{Q:o7->o9->Prop}(he:VG s.heap e j c O)(gj:s.heap.IsTupleIter j t i)(gt:s.heap.IsTuple t its)(gx:its[i]? =u_ x)(ej:e≠j)
  (q:∀h2,GW h2 e j (c+1) x #[0,s]->h2.IsTupleIter j t (i+1)->h2.get? #[0,s]=u_ {cls:= .type "tuple",data:= .seq #[.int c s.toks,x]}->h2.objs.size=#[0,s]+1->
   (∀b o,b≠e->b≠j->s.heap.get? b=u_ o->h2.get? b=u_ o)->Q (.ref #[0,s]) {s with heap:=h2,toks:=s.toks+1}):
  V2 #[w,w] A (VI.«enumerate.__next__» [[.ref e]:[]]) (λfin t=>∃v,fin= .done (.ret v)/\Q v t) E s:=by
 erw[s,U,g,d,tk,os];show V2 _ _ (Vx (.ref e) 2>>=_) _ _ _;refine A7 (vj he rfl (x:= .ref j) rfl ?_);refine A7 (Sk gj gt gx λh1 j1 s1=>?_)
 replace s1:VF j U h1:=s1
 have e1:VG h1 e j c O:=(s1.2 e ej).trans he;show V2 _ _ (Vx (.ref e) 3>>=_) _ _ ⟨h1,g,d,tk,os⟩;refine A7 (vj e1 rfl (x:=Vw c) rfl ?_);show V2 _ _ (Vx (.ref e) 4>>=_) _ _ ⟨h1,g,d,tk,os⟩;refine A7 (vj e1 rfl (x:= .none) rfl ?_);show V2 _ _ (mkInt c>>=_) _ _ ⟨h1,g,d,tk,os⟩;refine A7 (wpAny_mkInt ?_);show V2 _ _ (setField (.ref e) 3 (Vw (c+1))>>=_) _ _ ⟨h1,g,d,tk+1,os⟩;refine A7 (vp e1 (by simp) λh2 e2 s2=>?_)
 replace s2:VF e h1 h2:=s2
 replace e2:VG h2 e j (c+1) O:=e2
 show V2 _ _ (setField (.ref e) 4 .none>>=_) _ _ ⟨h2,g,d,tk+1,os⟩;refine A7 (vp e2 (by simp) λh3 e3 Z=>?_)
 replace Z:VF e h2 h3:=Z
 replace e3:VG h3 e j (c+1) O:=e3
 show V2 _ _ (tK [.int c tk,x]>>=_) _ _ ⟨h3,g,d,tk+1,os⟩;refine A7 (RI ?_);have e4:VG (h3.push {cls:= .type "tuple",data:= .seq #[.int c tk,x]}) e j (c+1) O:=ud _ e3;generalize hg:h3.push {cls:= .type "tuple",data:= .seq #[.int c tk,x]}=h4 at e4;have sz:h3.objs.size=U.objs.size:=by rw[Z.1,s2.1,s1.1]
 have el:e<U.objs.size:=uK he;have t4:h4.get? U.objs.size=u_ {cls:= .type "tuple",data:= .seq #[.int c tk,x]}:=by rw[<-hg,<-sz];exact uL _ rfl
 have n4:h4.objs.size=U.objs.size+1:=by rw[<-hg,vo,sz]
 have k4:∀b o,b≠e->b≠j->U.get? b=u_ o->h4.get? b=u_ o:=λb o be bj y=>by
  rw[<-hg];exact ud _ (Z.extBut b o be (s2.extBut b o be (s1.extBut b o bj y)))
 have j4:h4.IsTupleIter j t (i+1):=by
  erw[j1,o,y,r];exact⟨o,by rw[<-hg];exact ud _ (Z.extBut j o (vX ej) (s2.extBut j o (vX ej) y)),r⟩
 show V2 _ _ (Gn (.ref e)>>=_) _ _ ⟨h4,g,d,tk+1,os⟩;rw[sz];clear hg e3 Z e2 s2 e1 s1 j1 sz h3 h2 h1;refine A7 ?_;unfold Gn;refine A7 (vj e4 rfl (x:= .none) rfl (uF ?_));simp![if_true];refine A7 (UC ?_);refine A7 (vj e4 rfl (x:=O) rfl ?_);refine A7 (vp e4 (by simp) λh5 e5 s5=>?_)
 replace s5:VF e h4 h5:=s5
 replace e5:VG h5 e j (c+1) x:=e5
 show V2 _ _ (GY (.ref e) (.ref U.objs.size)>>=_) _ _ ⟨h5,g,d,tk+1,os⟩;refine A7 ?_;unfold GY;refine A7 (vp e5 (by simp) λh6 e6 s6=>?_)
 replace s6:VF e h5 h6:=s6
 replace e6:GW h6 e j (c+1) x U.objs.size:=e6
 refine vp e6 (by simp) λh7 e7 s7=>?_
 replace s7:VF e h6 h7:=s7
 replace e7:GW h7 e j (c+1) x U.objs.size:=e7
 have up:∀b o,b≠e->h4.get? b=u_ o->h7.get? b=u_ o:=λb o be y=>s7.extBut b o be (s6.extBut b o be (s5.extBut b o be y));refine A7 (tL (uF [0:q h7 e7 ?_ (up _ _ (U4 el) t4) ?_ λb o be bj y=>up b o be (k4 b o be bj y)]))
 ·erw[j4,o,y,r];exact[o:up j o (vX ej) y:r]
 ·rw[s7.1,s6.1,s5.1,n4]
def enum_go {e j t:o6}{i:Nat}{c:Int}{its:Array o7}{x O:o7}{Q:ot o7->o9->Prop}(U:VG s.heap e j c O)(Z:s.heap.IsTupleIter j t i)(gt:s.heap.IsTuple t its)(gx:its[i]? =u_ x)(ej:e≠j)
  (q:∀h2,GW h2 e j (c+1) x #[0,s]->h2.IsTupleIter j t (i+1)->h2.get? #[0,s]=u_ {cls:= .type "tuple",data:= .seq #[.int c s.toks,x]}->h2.objs.size=#[0,s]+1->
   (∀b o,b≠e->b≠j->s.heap.get? b=u_ o->h2.get? b=u_ o)->Q (u_ (.ref #[0,s])) {s with heap:=h2,toks:=s.toks+1}):V2 #[w,w] A (Vu (.ref e)) Q E s:=by
 have te:s.TypeIs (.ref e) "enumerate":=[_:U:1];unfold Vu;exact A7 (UL (vk (name:=gY "__next__") te Ur
  (vF Ur te F.entry_enumerate_next (Ac0 U Z gt gx ej λh2 b1 b2 b3 b4 b5=>uF (q h2 b1 b2 b3 b4 b5)) (F.args_enumerate_next_1 _))))
def enum_stop {e j t:o6}{i:Nat}{c:Int}{its:Array o7}{O:o7}{Q:ot o7->o9->Prop}(Z:A.handled=U_)(U:VG s.heap e j c O)(gj:s.heap.IsTupleIter j t i)(gt:s.heap.IsTuple t its)(gx:its[i]? =U_)
  (q:∀h2,Rg j s.heap h2->Q U_ {s with heap:=h2}):V2 #[w,w] A (Vu (.ref e)) Q E s:=by
 have te:s.TypeIs (.ref e) "enumerate":=[_:U:1];unfold Vu;refine A7 (UL (vk (name:=gY "__next__") te Ur
  (vF Ur te F.entry_enumerate_next ?_ (F.args_enumerate_next_1 _))))
 show V2 _ _ (Vx (.ref e) 2>>=_) _ _ _;refine A7 (vj U rfl (x:= .ref j) rfl ?_);refine A7 (nH Z gj gt gx λh2 y s2 hy=>?_);erw[hy,o,g,c];refine A7 (Uy (T:="StopIteration") (b:=v_) [o:g:c] Ft ?_);exact uF (q _ s2)
def AdI (T:String)(args:oq o7)(kw:oq (Str×o7)):(Code.builtin "type.__call__" [.type T::args:kw]).weight=0:=rfl
def new_kw {T U:String}{Bn:VI}{args:oq o7}{kw:oq (Str×o7)}{S:PySem.Spec}{Q:o7->o9->Prop}(O:TypeCalled T U "object.__init__")
  (af:(u_ U !=u_ "object.__new__")=v_) (ag:RH T [args:kw]=pure V_) (aa:rH U [.type T::args:kw]=pure V_)
  (hok:∀obj,argsOk "object.__init__" [obj::args:kw]) (en:entryFor table U=u_ Bn) (g:Gz (Bn [.type T::args:kw]) S)
  (h:S A.in1 (wants (λobj s1=>s1.TypeIs obj T/\Q obj s1) E) s):V2 #[w,w] A (call (.type T) args kw) Q E s:=by
 erw[O.mro,c,tl,hm];have ac:=O.made;have ae:=O.sub;refine GQ (codeAny_of_tree ?_);show V2 _ _ (callAny (.type T) _) _ _ _;refine uF [Code.quiet_builtin _ ():T9 F.entry_type_call ?_]
 rw[Around.under_plain (AdI T args kw) (units_type_call_type T args kw)];have g1:=O.notType;have g2:=O.canCreate
 repeat (any_goals (first|assumption|wp_step))
 refine Um (Tc O.plain en (tH aa (g prog w A.in1 _ s h))) λr s1 hr=>?_;cases r with
 |error e=>exact hr
 |ok fl=>
  cases fl with
  |ret obj=>
   erw[hr,hT,hq];have ah:=O.init.lookup;have ak:=O.init.bind obj
   repeat (any_goals (first|assumption|wp_step))
   have gi:Gz (VI.«object.__init__» ⟨obj::args,kw⟩) (λ_ R s=>s.TypeIs obj T/\R (.ok (.ret .none)) s):=by
    refine Meets.of_wp λprog w A R s hs=>?_;erw[hs,hT,hq];cases hc:(!args.isEmpty|| !kw.isEmpty) with
    |false=>
     show V2 _ _ (if(!args.isEmpty|| !kw.isEmpty)=v_ then _ else _) _ _ _
     rw[A4 (by rw[hc];exact ub)]
     exact uF [0:hq]
    |true=>
     repeat (any_goals (first|assumption|wp_step))
     exact[0:hq]
   refine Um (Tc O.init.plain F.entry_object_init (O.init.check _ _ _ _ _ _ _ _ hT (hok obj) (gi prog w A.in1 (wants (λr s2=>r= .none/\Q obj s2) E) s1 [hT:1:hq]))) λr2 s2 Z=>?_;cases r2 with
   |error e=>exact Z
   |ok ad=>
    cases ad with
    |ret r=>
     erw[Z,rfl,hq]
     repeat (any_goals (first|assumption|wp_step))
    |_=>exact Z.elim
  |_=>exact hr.elim
end
end AwZ
namespace L2
open PySem PySem.Spec PyProof.Rows
nonrec def Its (x:Str):It:=⟨λi _=>i<x.cps.size,λi H v H'=>H'=H/\∃c,x.cps[i]? =u_ c/\v= .str ⟨#[c]⟩,λi _=>i=x.cps.size⟩
variable {w:oj}{K:o0}{tg:Expr}
def AT {P:oh}{x:Str}{t:Tok}{it:o6}(ty:String)(O:ty="str_ascii_iterator"∨ty="str_iterator"):
  MO P w K tg (Its x) [it] it (λi h=>h.IsStrIter it ty x t i) where
 mem:=by simp
 obj:=λi h st b U=>by
  have e:b=it:=by simpa using U
  subst e;erw[st,o,e,c,d];exact⟨o,e,λv z=>by rw[d] at z;cases z⟩
 keep:=λi h h' st k=>by
  erw[st,o,e,r];exact⟨o,k it (by simp) o e,r⟩
 item:=by
  intro X hP hw hK Z i ou s σ H E I hf st hg;subst hP hw hK;obtain⟨f0,f1,f2,f3,f4,f5⟩:=hf it (by simp)
  have W:Walks X.prog X.w X.A it [it] [it] x.cps.size (SignAt x) (λi h=>h.IsStrIter it ty x t i):=by
   rcases O with rfl|rfl
   ·exact Rc (I.ok.hd Z) it x t
   ·exact rm (I.ok.hd Z) it x t
  refine vm (n:=1) I.tk (W.item i s _ _ hg st λv h' tk hv aa kk=>?_);intro htk;erw[hv,c,u,hx,rfl];have I1:Inv X ou σ H {s with heap:=h',toks:=tk}:=I.turned (λb o U e=>kk b o (by simpa using U) e) f0 f1 f3 f4 f5
  erw[id aa,o,e,c',d];refine⟨0,EM (s:={s with heap:=h',toks:=tk}) e c' d (by rcases O with rfl|rfl<;>decide) ⟨.str ⟨#[c]⟩,H,I1,[u:1],⟨1,c,hx,1⟩,aa,λb U=>(hf b U).1⟩⟩
 done:=by
  intro X hP hw hK Z i ou s σ H E I hf st hg;subst hP hw hK;have ac:i=x.cps.size:=hg;subst ac;obtain⟨f0,f1,f2,f3,f4,f5⟩:=hf it (by simp)
  have W:Walks X.prog X.w X.A it [it] [it] x.cps.size (SignAt x) (λi h=>h.IsStrIter it ty x t i):=by
   rcases O with rfl|rfl
   ·exact Rc (I.ok.hd Z) it x t
   ·exact rm (I.ok.hd Z) it x t
  exact vm (n:=1) I.tk (W.done s _ _ st λh' tk kk htk=>⟨1,I.turned (λb o U e=>kk b o (by simpa using U) e) f0 f1 f3 f4 f5⟩)
 self:=λ_ _ _ _ _ st h=>by
  rcases O with rfl|rfl
  ·exact wpAny_pyIter_striter_ascii st h
  ·exact wpAny_pyIter_striter_wide st h
section
variable {X:Cx}{tg:Expr}
inductive Adg (R:(It->Hp->Prop))(x:V)(H1:Hp):Prop
 |mk (z:_)(_:x= .str z)(_:R (Its z) H1)
nonrec def Ad8 (tl:TE):TI:=λσ H R=>tl σ H λx H1=>Adg R x H1
def Mf {l:Expr}{tl:TE}(U:PE X l tl):PI X tg l (Ad8 tl):=by
 exists 2,R,I,h;refine thn (U ou s σ H _ I h) λv s1 zq=>?_;erw[zq,x,H1,O,Z,q1];erw[q1,z,e,q];subst e;erw[Z,t,rfl];have fp:∀(o:Obj),∀b∈ [#[0,s1]],AQ X ou H1 b:=λo b hb=>by
  have e:b=#[0,s1]:=by simpa using hb
  subst e;exact O.fpOk (uA _) (O.hok.fresh (uA _))
 cases ha:z.cps.all (·<128)
 ·refine wpAny_pyIter_wide ha ?_;exact⟨#[0,s1],[#[0,s1]],_,_,H1,1,O.kept (t':=s1.toks) λb o e=>ud _ e,AT "str_iterator" (.inr rfl),⟨_,uL _ rfl,1,1⟩,fp default,q⟩
 ·refine wpAny_pyIter_ascii ha ?_;exact⟨#[0,s1],[#[0,s1]],_,_,H1,1,O.kept (t':=s1.toks) λb o e=>ud _ e,AT "str_ascii_iterator" (.inl rfl),⟨_,uL _ rfl,1,1⟩,fp default,q⟩
inductive Ads (x:V)(lo:Option Int)(hi:Option Int)(H:Hp)(Q:VK):Prop
 |mk (z:_)(_:x= .str z)(_:↑z<=V5)(_:Q (.str (Hq z lo hi)) H)
nonrec def Ca:o7->ot (Int×Tok)
 | .int i t=>u_ (i,t)
 |_=>U_
def S5:SlR X Ads:=by
 exists 2,x,v,O,U,lo,hi,sl,Q,I,rx,hs,pl,pu,h;erw[h,z,rfl,hz,q];erw[rx,t,rfl];exists "str",_,F.slot_str_getitem.lookup,vW _ _ _;have Z:O=partValue (Ca O)/\lo=(Ca O).map (·.1):=by cases pl<;>exact[1:1]
 have hu:U=partValue (Ca U)/\hi=(Ca U).map (·.1):=by cases pu<;>exact[1:1]
 erw[hs,o,e1,e2,e3];refine vm (n:=1) I.tk ?_;refine wpAny_getItem_str_slice (l:=Ca O) (u:=Ca U) (st:=U_) ⟨o,e1,e2,by rw[e3,<-Z.1,<-hu.1];rfl⟩ rfl ?_
 refine post_val_or_str [?_:λt' k=>?_]
 ·exact vg (TU z _ _) hz
 ·intro htk;exact⟨.str (Hq z lo hi),H,I.tok k,⟨t',by rw[Z.2,hu.2];rfl⟩,q⟩
def qV {K:o0}(U:X.K=K):jg X (.builtin "isinstance") (λxs H Q=>∃x T t b,xs= [x,.ty T]/\BY K H x t/\PySem.W.kitOne K t (.type T)=u_ b/\Q (.bl b) H):=by
 exists 2,xs,us,Q,I,r,h;erw[h,x,T,t,b,rfl,ty,e,q];erw[IJ r,u,Z,rfl,ru,O];cases O;subst U;exact vm (n:=1) I.tk (ED I ru ty e λtk htk=>⟨.bl b,H,I.tok tk,1,q⟩)
def sM:∀bs:oq Bool,(Va ↑bs).all (λi=>bs.getD i v_)=bs.all id
 | []=>rfl
 |b::r=>by
  rw[uB,Tv,vM,Us,vM];have e:(Va ↑r).all ((λi=>(b::r).getD i v_)∘HU)=(Va ↑r).all λi=>r.getD i true:=by
   congr 1
  rw[e,sM r]
  rfl
def Xn (hc:X.calm=v_):jg X (.builtin "all") (λxs H Q=>∃(p:o6) (bs:oq Bool),xs= [.ref p]/\SqL X.K H p (bs.map V.bl)/\Q (.bl (bs.all id)) H):=by
 exists 2,xs,us,Q,I,r,h;erw[h,p,bs,rfl,hp,q];erw[jZ r,u,rfl,ru];cases ru;erw[I.list hp,its,rv,pl,hz];have aa:p<#[0,s]:=by erw[pl,o,n,e,_];exact uK e
 refine vm (n:=1) I.tk ?_;refine call_all_walk (UR pl.isList ?_);have up:∀b o,s.heap.get? b=u_ o->(s.heap.push {cls:= .type "list_iterator",data:= .fields #[.ref p,.int 0 0]}).get? b=u_ o:=λb o e=>ud _ e;have hl:↑its=↑bs:=by have:=↑rv;simpa using this.symm
 exists #[0,s],_,_,_,_,_,λi=>bs.getD i v_,1,Walks.list (show X.A.in1.handled=U_ from I.ok.hd hc) #[0,s] p (v7 aa) its.toArray,[⟨_,uL _ rfl,1,1⟩:pl.isList.push _],?_,?_
 ·intro i v s' Q' E' hv hQ;have O:its[i]? =u_ v:=by simpa using hv
  have hi:i<↑its:=(Ag.mp O).1;obtain⟨u,e1,e2⟩:=rv.get (i:=i) (x:= .bl (bs[i]'())) (by simp[show i<bs.length by omega])
  rw[O] at e1;cases e1;cases e2;have:bs.getD i v_=bs[i]'():=by simp[VP,show i<bs.length by omega]
  have U:Q' (bs.getD i v_) s':=hQ;rw[this] at U;exact vv U
 ·intro h' tk kk htk;have Z:(Va its.toArray.size).all (λi=>bs.getD i v_)=bs.all id:=by
   rw[ur,hl];exact sM bs
  rw[Z];have I1:=I.kept (t':=s.toks) (h':=s.heap.push {cls:= .type "list_iterator",data:= .fields #[.ref p,.int 0 0]}) up;have ac:=I.fpOk (uA _) (I.hok.fresh (uA #[0,s]));erw[ac,f0,f1,f2,f3,f4,f5];exact⟨.bl (bs.all id),H,I1.turned (it:=#[0,s]) (λb o hb e=>kk b o (by simpa using hb) e) f0 f1 f3 f4 f5,1,q⟩
end
section
variable {X:Cx}
def kJ {x:Str}{i:Int}{pos:Pos}(O:Gl X x)(hm:∃t,X.mg x=u_ (.int i t))(hd:(x==("__debug__":Str))=V1):PE X (.Name x pos) (tC (.int i)):=by
 erw[hm,t,hm];exact Al O hm [t:1] hd
def AaA {x z:Str}{pos:Pos}(O:Gl X x)(hm:∃t,X.mg x=u_ (.str z t))(hd:(x==("__debug__":Str))=V1):PE X (.Name x pos) (tC (.str z)):=by
 erw[hm,t,hm];exact Al O hm [t:1] hd
def pe_gR {x:Str}{a:o6}{pos:Pos}(O:Gl X x)(hm:X.mg x=u_ (.ref a))(hd:(x==("__debug__":Str))=V1):PE X (.Name x pos) (tC (.ref a)):=Al O hm rfl hd
end
variable {H:Hp}{p:o6}
def qf (h:H p=U_)(o:HO):ig H (upd H p o):=λb u q=>by rw[qh (qi q h)];exact q
nonrec def mH (p:o6)(H H':Hp):Prop:=∀b o,H b=u_ o->b≠p->H' b=u_ o
variable {H1 H2:Hp}
def mH.trans (a:mH p H H1)(b:mH p H1 H2):mH p H H2:=λc o h n=>b c o (a c o h n) n
def mH.upd (p:o6)(H:Hp)(o:HO):mH p H (L2.upd H p o):=λb u h n=>by rw[qh n];exact h
nonrec def m6 (cells:oq (Str×o6)):oq (Str×VB)->oq (Str×o6)->oq (Str×o6)
 | [],cs=>cs
 |(n,k)::r,cs=>m6 cells r (if k== .free then(match cells.lookup n with|some a=>(n,a)::cs|none=>cs) else cs)
def Km {cells:oq (Str×o6)}:∀{names:oq (Str×VB)}{cs:oq (Str×o6)},(∀y c,cs.lookup y=u_ c->cells.lookup y=u_ c)->∀y c,(m6 cells names cs).lookup y=u_ c->cells.lookup y=u_ c
 | [],_,h=>h
 |(n,k)::r,cs,h=>by
  unfold m6;refine Km λy c e=>?_;split at e
  ·split at e
   ·rename_i a ha
    rw[vn] at e;split at e
    ·rename_i U
     have O:y=n:=beq_iff_eq.mp U;subst O;cases e;exact ha
    ·exact h y c e
   ·exact h y c e
  ·exact h y c e
def sw {cells:oq (Str×o6)}:∀{names:oq (Str×VB)}{cs:oq (Str×o6)}{y:Str},(∃c,cs.lookup y=u_ c)->∃c,(m6 cells names cs).lookup y=u_ c
 | [],_,_,h=>h
 |(n,k)::r,cs,y,h=>by
  unfold m6;refine sw ?_;split
  ·split
   ·rw[vn];split
    ·exact⟨0⟩
    ·exact h
   ·exact h
  ·exact h
def kL {cells:oq (Str×o6)}:∀{names:oq (Str×VB)}{cs:oq (Str×o6)}{y:Str},(y,Vj)∈names->(∃c,cells.lookup y=u_ c)->∃c,(m6 cells names cs).lookup y=u_ c
 | [],_,_,h,_=>nomatch h
 |(n,k)::r,cs,y,h,O=>by
  unfold m6;rcases Aa.mp h with e|h
  ·cases e;refine sw ?_;erw[O,c,O];rw[A6 (),O]
   exact⟨c,by simp[vn]⟩
  ·exact kL h O
def zl {env:Env}:∀{names:oq (Str×VB)}{cs:oq (Str×o6)},(∀y,(y,Vj)∈names->∃c,env.cells.lookup y=u_ c)->
  (VN names cs λx r=>(do
   if x.2== .free then
    let a<-Ht env x.1
    pure (Gu ((x.1,a)::r))
   else pure (Gu r):Sem (ForInStep (oq (Str×o6)))))=(pure (m6 env.cells names cs):Sem (oq (Str×o6)))
 | [],cs,_=>rfl
 |(n,k)::r,cs,h=>by
  rw[Uo];have Z:∀y,(y,Vj)∈r->∃c,env.cells.lookup y=u_ c:=λy hy=>h y (uj _ hy);unfold m6;by_cases O:(k==Vj)=v_
  ·have U:k= .free:=by simpa using O
   subst U;erw[h n ui,c,hc];have e:Ht env n=pure c:=by unfold Ht;rw[hc]
   simp![O,if_true,e,hc,tF];exact zl Z
  ·simp![A4 O,tF];exact zl Z
def Wv {scope:Vl}{env:Env}(h:∀y,(y,Vj)∈scope.names->∃c,env.cells.lookup y=u_ c):Hn scope env=pure (m6 env.cells scope.names []):=by
 unfold Hn;have q:=zl (cs:= []) h;show(VN scope.names ([]:oq (Str×o6)) (λx r=>(do
   if x.2== .free then
    let a<-Ht env x.1
    pure (Gu ((x.1,a)::r))
   else pure (Gu r):Sem (ForInStep (oq (Str×o6)))))>>=λcs=>pure cs)=_
 rw[q,tF]
def Zm {env:Env}(hf:env.scope.kind= .function):∀{names:oq (Str×VB)}{x:Str},names.lookup x=u_ .free->env.kindOf x=u_ .cell->
  (names.map λ(n,k)=>if(k==Vj&&env.scope.kind== .function&&env.kindOf n==u_ .cell) then(n,VZ) else(n,k)).lookup x=u_ .cell
 | [],_,h,_=>by simp at h
 |(n,k)::r,x,h,hc=>by
  have ih:= @Zm env hf r x;show Vq x ((if(k==Vj&&env.scope.kind== .function&&env.kindOf n==u_ .cell)=v_ then(n,VZ) else(n,k))::_)=_
  cases O:x==n with
  |true=>
   simp![vn,O] at h;cases h;have Z:x=n:=beq_iff_eq.mp O;subst Z;rw[A6 (by rw[hf,hc];rfl)]
   simp[vn]
  |false=>
   simp![vn,O] at h;by_cases U:(k==Vj&&env.scope.kind== .function&&env.kindOf n==u_ .cell)=v_
   ·rw[A6 U];simp![vn,O];exact ih h hc
   ·rw[A4 U];simp![vn,O];exact ih h hc
def Z6 {env:Env}:∀{names:oq (Str×VB)}{x:Str},(∀y∈names,y.2≠ .cell)->
  ((names.map λ(n,k)=>if(k==Vj&&env.scope.kind== .function&&env.kindOf n==u_ .cell) then(n,VZ) else(n,k)).lookup x=u_ .cell∨
   (names.map λ(n,k)=>if(k==Vj&&env.scope.kind== .function&&env.kindOf n==u_ .cell) then(n,VZ) else(n,k)).lookup x=u_ .free)->(x,Vj)∈names
 | [],_,_,h=>by simp at h
 |(n,k)::r,x,hn,h=>by
  have ih:= @Z6 env r x (λy hy=>hn y (uj _ hy));have g:Vq x ((if(k==Vj&&env.scope.kind== .function&&env.kindOf n==u_ .cell)=v_ then(n,VZ) else(n,k))::(r.map λ(n,k)=>if(k==Vj&&env.scope.kind== .function&&env.kindOf n==u_ .cell) then(n,VZ) else(n,k)))=u_ .cell∨
   Vq x ((if(k==Vj&&env.scope.kind== .function&&env.kindOf n==u_ .cell)=v_ then(n,VZ) else(n,k))::(r.map λ(n,k)=>if(k==Vj&&env.scope.kind== .function&&env.kindOf n==u_ .cell) then(n,VZ) else(n,k)))=u_ .free:=h
  have aa:k≠ .cell:=hn (n,k) ui;by_cases Z:(k==Vj&&env.scope.kind== .function&&env.kindOf n==u_ .cell)=v_
  ·rw[A6 Z] at g;have hk:k= .free:=by
    rw[uG,uG] at Z
    simpa using Z.1.1
   subst hk;cases U:x==n with
   |true=>
    have O:x=n:=beq_iff_eq.mp U;subst O;exact ui
   |false=>
    simp![vn,U] at g;exact uj _ (ih g)
  ·rw[A4 Z] at g;cases U:x==n with
   |true=>
    have O:x=n:=beq_iff_eq.mp U;subst O;simp![vn,U] at g;rcases g with g|g
    ·exact A8 (uM g) aa
    ·rw[show k=Vj from uM g]
     exact ui
   |false=>
    simp![vn,U] at g;exact uj _ (ih g)
noncomputable abbrev blk (X:Cx)(scope:Vl)(Nb:oq Str)(cl:oq (Str×o6))(C:o6)(s₀:o9)(H₀:Hp)(fp:oq o6)(pn:oq (o6×Obj)):Cx:=
 {X with N:=Nb,s₀:=s₀,H₀:=H₀,env:=tj scope cl C X.env,outer:=X.stack,ex:=fp,fn:=λ_=>V1,pn:=pn,xe:=λ_ _=>False}
structure LcS (X:Cx)(scope:Vl)(Nb:oq Str)(nt:Nat)(fr:oq Nat):Prop where
 kind:scope.kind= .function
 cell:∀y∈scope.names,y.2≠ .cell
 names:∀y∈scope.names,y.2= .local->scope.names.lookup y.1=u_ .local
 free:∀y∈scope.names,y.2= .free->X.env.kindOf y.1=u_ .cell
 len:↑Nb=nt+↑fr
 fr:∀(k j:Nat) (x:Str),fr[k]? =u_ j->Nb[nt+k]? =u_ x->X.N[j]? =u_ x/\scope.names.lookup x=u_ .free
nonrec def NF (nt:Nat)(fr:oq Nat)(σ:St):St:=Ff nt U_++fr.map λj=>(σ[j]?).join
section
variable {pr:oh}{wo:oj}{ar:om}{RR:Ge->o9->Prop}{st:o9}
noncomputable abbrev nb (pr:oh)(wo:oj)(ar:om)(en:Env)(RR:Ge->o9->Prop):o7->o9->Prop:=notedBy (Vg pr wo) ar en λx t=>RR (.error x) t
noncomputable abbrev Adm (en:Env)(cs:oq Expr):Sem Bool:=VN cs v_ λc b=>if b=v_ then do let y<-isTrue c en (eval c en);pure (Gu y) else pure (Gu b)
def AI {el tg Z:Expr}{cs:oq Expr}{sc:Vl}{ps:Pos}{O U:o7}{en:Env}(J:Nat->o9->Prop)
  (aa:∀k t,J k t->V2 (Vg pr wo) ar (Vu O) (λr t1=>match r with
   |none=>RR (.ok .next) t1
   |some v=>V2 (Vg pr wo) ar (Hj tg O v) (λ_ t2=>V2 (Vg pr wo) ar (VX tg en v) (λ_ t3=>V2 (Vg pr wo) ar (Adm en cs) (λb t4=>
     if b=v_ then V2 (Vg pr wo) ar (eval el en) (λx t5=>V2 (Vg pr wo) ar (call (.builtin "list.append") [U,x]) (λ_ t6=>∃m,m<k/\J m t6) (nb pr wo ar en RR) t5) (nb pr wo ar en RR) t4
     else∃m,m<k/\J m t4) (nb pr wo ar en RR) t3) (nb pr wo ar en RR) t2) (nb pr wo ar en RR) t1) (nb pr wo ar en RR) t)
  (k:Nat) (h0:J k st):VD (Vg pr wo) ar (.compLoop (.ListComp el [⟨tg,Z,cs,(0)⟩] sc ps) 0 O U en) RR st:=by
 refine codeAny_loop rfl J (λk t hJ=>?_) k h0;show V2 _ ar ((compTurn (.ListComp el [⟨tg,Z,cs,(0)⟩] sc ps) 0 O U en).onRaise λx=>do noteFrame x en;theTreesLotGoes x) _ _ t
 rw[compTurn_list];refine wpAny_noted (A7 (TC (A7 (thn (aa k t hJ) λr t1 q1=>?_))));cases r with
 |none=>exact uF q1
 |some v=>
  refine A7 (thn q1 λ_ t2 q2=>A7 (thn q2 λ_ t3 q3=>A7 (thn q3 λb t4 q4=>?_)));cases b with
  |false=>exact uF [1:q4]
  |true=>exact A7 (A7 (thn q4 λx t5 q5=>A7 (thn q5 λ_ t6 q6=>uF (uF [1:q6]))))
end
nonrec def AbJ (X:Cx)(ifs:oq Expr)(t:TT):Prop:=
 ∀(ou:oq (o6×Obj)) (s:o9) (σ:St) (H:Hp) (Q:Bool->Hp->Prop),#[I]->t σ H Q->V2 #[X,X] X.A (Adm X.env ifs) (TP X ou σ Q) X.xe s
nonrec def sS:TT:=λ_ H Q=>Q v_ H
def yS {X:Cx}:AbJ X [] sS:=λ_ _ _ H _ I h=>wpAny_tests_nil [H:I:h]
def Ak {X:Cx}{c:Expr}{t:TT}(h:PT X c t):AbJ X [c] t:=λou s σ H Q I O=>wpAny_tests_one (h ou s σ H Q I O)
nonrec def CS (D:o6)(J:It)(g:TG)(tc:TT)(te:TE)(σb:St)(H1:Hp)(Q:VK):Prop:=
 ∃(n:Nat) (W:Nat->St->oq V->Hp->Prop),n<=V5/\W 0 σb [] (upd H1 D (.lst []))/\
  (∀i σ ys H,i<n->W i σ ys H->H D=u_ (.lst ys)->↑ys<=i->J.go i H/\∀x H',J.yld i H x H'->g x σ H' λσ2 H2=>tc σ2 H2 λb H3=>
   if b=v_ then te σ2 H3 λy H4=>H4 D=u_ (.lst ys)/\W (i+1) σ2 (ys++ [y]) (upd H4 D (.lst (ys++ [y]))) else H3 D=u_ (.lst ys)/\W (i+1) σ2 ys H3)/\
  ∀σ ys H,W n σ ys H->H D=u_ (.lst ys)->J.stop n H/\Q (.ref D) H
nonrec def tLC (nt:Nat)(fr:oq Nat)(wi:TI)(g:TG)(tc:TT)(te:TE):TE:=λσ H Q=>wi σ H λJ H1=>∀D,H1 D=U_->CS D J g tc te (NF nt fr σ) H1 Q
section
variable {X:Cx}{scope:Vl}{Nb:oq Str}{nt:Nat}{fr:oq Nat}
def O6 {ou:oq (o6×Obj)}{σ:St}{H:Hp}{s:o9}{fp:oq o6}{C:o6}{h4:og}{tk:Nat}(S:LcS X scope Nb nt fr)(I:#[I])(hC:C=#[0,s])
  (ag:h4.Ns C λ_=>U_) (U:∀b o,s.heap.get? b=u_ o->h4.get? b=u_ o) (hf:∀b∈fp,AQ X ou H b) (ho:∀b∈fp,∃o,s.heap.get? b=u_ o) (ht:0<tk:=by ac_rfl):
  Inv (blk X scope Nb (m6 X.env.cells scope.names []) C s H fp (X.pn++ou)) [] (NF nt fr σ) H {s with heap:=h4,toks:=tk}:=by
 subst hC;have sub:∀y c,(m6 X.env.cells scope.names []).lookup y=u_ c->X.env.cells.lookup y=u_ c:=Km λy c e=>by simp at e
 have Z:∀y,(y,Vj)∈scope.names->X.env.kindOf y=u_ .cell:=λy hy=>S.free _ hy rfl;have ad:∀b o,s.heap.get? b=u_ o->b≠#[0,s]:=λb o e z=>by rw[z] at e;exact A8 (uK e) (vL _)
 have O:∀b,b≠X.env.locals->b∉X.fs->b∉frs X.stack:=λb h1 h2 z=>(Aa.mp (I.stkSub b z)).elim h1 h2;exists ⟨I.ok.mod,S.kind,I.ok.glob,I.ok.blt,uA _,λx y c h1 h2=>I.ok.inj x y c (sub x c h1) (sub y c h2),λx hx=>?_,λx c z=>(by cases z),I.ok.hd,I.ok.frames,.inl rfl,λb hb=>?_,I.bs,vg I.ok.bsz I.sz,λb o e hb=>?_,λb hb=>?_,I.stack,I.stkFree⟩,1,I.bare,Un.kept U,[_:ag:λi x v e1 e2 e3=>?_],λx c e=>?_,I.hok.fresh (uA _),λx c e=>I.freeC x c (sub x c e),λp hp=>?_,I.hok.kept U,?_,ht
 ·have hm:=Z6 (env:=X.env) S.cell hx;exact kL hm (I.ok.has x (.inl (Z x hm)))
 ·erw[ho b hb,o,e];exact[ad b o e:λx c e'=>(hf b hb).2.2.2.2.1 x c (sub x c e')]
 ·rcases(hf b hb).2.2.2.1 with z|z
  ·exact I.ok.noex b o e z
  ·exact A8 (Vf (uK e) (vg I.ok.bsz z)) (vL _)
 ·exact O b (hf b hb).2.1 (hf b hb).2.2.1
 ·
  have hi:nt<=i:=by
   rcases GR i nt with z|z
   ·unfold NF at e2;rw[U8 (by simpa using z),Rk] at e2
    split at e2<;>cases e2
   ·exact z
  obtain⟨k,rfl⟩:∃k,i=nt+k:=[i-nt:()]
  unfold NF at e2;rw[Uw (by simp)] at e2
  simp![TL,TM,uC] at e2;cases ej:fr[k]? with
  |none=>rw[ej] at e2;cases e2
  |some j=>
   rw[ej] at e2;have aa:(σ[j]?).join=u_ v:=uM e2;have ae:σ[j]? =u_ (u_ v):=by
    cases q:σ[j]? with
    |none=>rw[q] at aa;cases aa
    |some z=>rw[q] at aa;exact A9 u_ aa
   erw[S.fr k j x ej e1,n1,n2];have kx:X.env.kindOf x=u_ .cell:=Z x (vI n2);erw[I.loc,m,hn,hl];erw[hl j x v n1 ae (.inr (.inl kx)),u,r,l];exists u,r,.inr [.inl (Zm I.ok.kind n2 kx):?_];rcases l with⟨z,_⟩|⟨_,c,ec,ac⟩
   ·rw[kx] at z;cases z
   ·erw[kL (cells:=X.env.cells) (cs:= []) (vI n2) [c:ec],c',af];have:=sub x c' af;rw[ec] at this;cases this;erw[ac,o,q,d];exact⟨c,af,o,U c o q,d⟩
 ·erw[I.cell x c (sub x c e),v,o,q,d];exact⟨v,o,U c o q,d⟩
 ·have ah:p∈X.pn++ou:=by simpa using hp
  erw[I.pin p ah,e,n,ne,nf,d];exact⟨U _ _ e,n,ad _ _ e,O _ ne nf,d⟩
 ·show(NF nt fr σ).length=↑Nb;unfold NF;rw[S.len];simp
def Eu {tg aa al:Expr}{am:oq Expr}{wi:TI}{g:TG}{tc:TT}{te:TE}{pos:Pos}{R:o7->o6->Ge->o9->Prop}{ou:oq (o6×Obj)}{s:o9}{σ:St}{H:Hp}{Q:VK}(S:LcS X scope Nb nt fr)(ao:X.calm=v_)(hi:PI X tg aa wi)
  (hg:∀cl C s₀ H₀ fp pn,PG (blk X scope Nb cl C s₀ H₀ fp pn) tg g) (hc:∀cl C s₀ H₀ fp pn,AbJ (blk X scope Nb cl C s₀ H₀ fp pn) am tc) (he:∀cl C s₀ H₀ fp pn,PE (blk X scope Nb cl C s₀ H₀ fp pn) al te)
  (I:#[I]) (h:tLC nt fr wi g tc te σ H Q)
  (hR:∀(D C:o6) (H':Hp) (s1:o9) (m:Str->ot o7),Inv X ou σ H' s1->s1.heap.Ns C m->AQ X ou H' C->Q (.ref D) H'->R (.ref D) C (.ok .next) s1):
  V2 #[X,X] X.A (eval aa X.env) (λx s₁=>V2 #[X,X] X.A (Hw x) (λit s₂=>V2 #[X,X] X.A (Hr []) (λax s₃=>
   V2 #[X,X] X.A (Tf scope X.env.globals (m6 X.env.cells scope.names []) [] X.env.qual U_ .none (u_ X.env)) (λag s₄=>
    VD #[X,X] X.A (.compStart (.ListComp al [⟨tg,aa,am,(0)⟩] scope pos) 0 it ax {ag with scope:=relabel scope X.env}) (R ax ag.locals) s₄) X.xe s₃) X.xe s₂) X.xe s₁) X.xe s:=by
 refine thn (hi ou s σ H _ I h) λv s1 h1=>thn h1 λaS s2 h2=>?_;erw[h2,it,fp,tn,J,H2,e,I2,T,ap,f2,q2];subst e;have ay:H2 #[0,s2]=none:=I2.hok.fresh (uA _);erw[q2 _ ay,n,W,hn,w0,step,fin];generalize hD:#[0,s2]=D at*;refine vz ?_;rw[hD];have I3:Inv X ou σ (upd H2 D (.lst [])) {s2 with heap:=s2.heap.push {cls:= .type "list",data:= .seq ([]:oq o7).toArray}}:=by
  have:=I2.lnew (ys:= []) (its:= []) (t':=s2.toks) .nil (uY _);rwa[hD] at this
 refine wpAny_newFunctionEnv S.cell (by intro y hy;simp at hy) (λh4 ad aq=>?_) S.kind
 dsimp only at ad aq⊢;generalize aA:s2.heap.push {cls:= .type "list",dict:=U_,data:= .seq ([]:oq o7).toArray}=h3 at ad aq I3⊢;have hC:h3.objs.size=D+1:=by rw[<-aA,vo,hD]
 have ae:∀b o,h3.get? b=u_ o->h4.get? b=u_ o:=λb o e=>aq.extBut b o (v7 (uK e)) (ud _ e);have Z:∀b o,s2.heap.get? b=u_ o->h3.get? b=u_ o:=λb o e=>by rw[<-aA];exact ud _ e
 have au:∀b∈fp,∃o,s2.heap.get? b=u_ o:=λb O=>let⟨o,e,_⟩:=T.obj _ _ ap b O;[o:e];have aG:∀b∈fp,b≠D:=λb O z=>by
  erw[au b O,o,e];have q:=uK e;rw[z,hD] at q;exact vL _ q
 have f3:∀b∈fp,AQ X ou (upd H2 D (.lst [])) b:=λb O=>⟨by rw[qh (aG b O)];exact(f2 b O).1,(f2 b O).2⟩
 have IB:=O6 (C:=h3.objs.size) (h4:=h4) (tk:=s2.toks+↑([]:oq (Str×o7))) (fp:=fp) S I3 rfl ad ae f3 λb O=>let⟨o,e⟩:=au b O;[o:Z b o e];generalize U:blk X scope Nb (m6 X.env.cells scope.names []) h3.objs.size {s2 with heap:=h3} (upd H2 D (.lst [])) fp (X.pn++ou)=Xb at IB
 have gB:=hg (m6 X.env.cells scope.names []) h3.objs.size {s2 with heap:=h3} (upd H2 D (.lst [])) fp (X.pn++ou)
 have cB:=hc (m6 X.env.cells scope.names []) h3.objs.size {s2 with heap:=h3} (upd H2 D (.lst [])) fp (X.pn++ou)
 have eB:=he (m6 X.env.cells scope.names []) h3.objs.size {s2 with heap:=h3} (upd H2 D (.lst [])) fp (X.pn++ou)
 rw[U] at gB cB eB;have xP:Xb.prog=X.prog:=by rw[<-U]
 have xW:Xb.w=X.w:=by rw[<-U]
 have xK:Xb.K=X.K:=by rw[<-U]
 have xA:Xb.A=X.A:=by rw[<-U]
 have xC:Xb.calm=true:=by rwa[<-U]
 have xE:Xb.env=tj scope (m6 X.env.cells scope.names []) h3.objs.size X.env:=by rw[<-U]
 have xX:Xb.xe=λ_ _=>False:=by rw[<-U]
 have af:∀{H':Hp},(∀b∈fp,H' b=U_)->∀b∈fp,AQ Xb [] H' b:=λhn b O=>by
  erw[f2 b O,g1,g2,g3,g4,g5,g6];erw[au b O,o,e];subst U;exists hn b O,λz=>?_,λz=>(Aa.mp (I2.stkSub b z)).elim g2 g3,.inl O,λx c ec=>g5 x c (Km (λy c e=>by simp at e) x c ec),λp hp=>g6 p (by simpa using hp)
  have ac:=uK (Z b o e);have z':b=h3.objs.size:=z;rw[z'] at ac;exact vL _ ac
 have ah:∀s5:o9,s5={s2 with heap:=h4,toks:=s2.toks+↑([]:oq (Str×o7))}->
   VD #[X,X] X.A (.compLoop (.ListComp al [⟨tg,aa,am,(0)⟩] scope pos) 0 (.ref it) (.ref D) (tj scope (m6 X.env.cells scope.names []) h3.objs.size X.env))
    (R (.ref D) h3.objs.size) s5:=by
  rintro s5 rfl;refine AI (λk s'=>∃i σ' ys H',Inv Xb [] σ' H' s'/\tn i s'.heap/\(∀b∈fp,H' b=U_)/\H' D=u_ (.lst ys)/\i<=n/\k=n-i/\↑ys<=i/\W i σ' ys H') ?_ n
   ⟨(0),NF nt fr σ,[],_,IB,T.keep _ _ _ ap λb O o e=>ae b o (Z b o e),λb O=>(f3 b O).1,qg,uY _,1,uA _,w0⟩
  rintro k s' ⟨i,σ',ys,H',I',aB,aC,aD,aH,rfl,aI,w'⟩;rcases GR i n with ac|aJ
  ·erw[step i σ' ys H' ac w' aD aI,go,next];have ti:=T.item Xb xP xW xK xC i [] s' σ' H' (λ_ _=>False) I' (af aC) aB go;rw[xA] at ti;refine vt ti (λr s1 h1=>?_) λ_ _ z=>z.elim;erw[h1,u,rfl,h1];refine vt h1 (λ_ aE aK=>?_) λ_ _ z=>z.elim;erw[aK,x,H5,I5,r5,y5,aw,aL];have aM:=I5.pinned (af aL) (T.obj _ _ aw);have ga:=gB _ aE σ' H5 x u _ aM r5 (next x H5 y5);rw[xP,xW,xA,xE,xX] at ga;refine vt ga (λ_ s3 aN=>?_) λ_ _ z=>z.elim;erw[aN,σ6,H6,I6,q6];have ca:=cB _ s3 σ6 H6 _ I6 q6;rw[xP,xW,xA,xE,xX] at ca;refine vt ca (λok s4 aO=>?_) λ_ _ z=>z.elim;erw[aO,H7,I7,q7];have ak:∀{σ8:St}{H8:Hp}{s8:o9},Inv Xb ([]++oo fp aE.heap) σ8 H8 s8->Inv Xb [] σ8 H8 s8/\tn (i+1) s8.heap/\∀b∈fp,H8 b=none:=λ{σ8 H8 s8} I8=>by
    exists I8.unpinned,T.keep _ _ _ aw λb O o e=>(I8.pin (b,o) (uP _ (uP _ (JP O e)))).1,λb O=>?_;erw[T.obj _ _ aw b O,o,e,d];exact(I8.pin (b,o) (uP _ (uP _ (JP O e)))).2.1
   cases ok with
   |false=>
    rw[A4 ub] at q7⊢;erw[ak I7,b1,b2,b3];exact⟨n-(i+1),(),i+1,σ6,ys,H7,b1,b2,b3,q7.1,ac,1,(),q7.2⟩
   |true=>
    rw[A6 rfl] at q7⊢;have ea:=eB _ s4 σ6 H7 _ I7 q7;rw[xP,xW,xA,xE,xX] at ea;refine vt ea (λy s5 h5=>?_) λ_ _ z=>z.elim;erw[h5,yv,H8,I8,r8,aP,q8];have ma:=jr (X:=Xb) _ s5 σ6 H8 (.ref D) [yv] (.ref D) [y] (λ_ H9=>H9=upd H8 D (.lst (ys++ [yv]))) I8 rfl (.cons r8 .nil) ⟨D,ys,yv,1,1,aP,(),1⟩
    rw[xP,xW,xA,xX] at ma;refine vt ma (λ_ s6 h6=>?_) λ_ _ z=>z.elim;erw[h6,_,H9,I9,_,rfl];erw[ak I9,b1,b2,b3];exact⟨n-(i+1),(),i+1,σ6,ys++ [yv],_,b1,b2,b3,qg,ac,1,by rw[uJ,Up];omega,q8⟩
  ·have aF:i=n:=Nat.le_antisymm aH aJ;subst aF;erw[fin σ' ys H' w' aD,stop,hq];have td:=T.done Xb xP xW xK xC i [] s' σ' H' (λ_ _=>False) I' (af aC) aB stop;rw[xA] at td;refine vt td (λr s1 h1=>?_) λ_ _ z=>z.elim;erw[h1,rfl,I6];erw[id I6.loc,m,hm,_];rw[xE] at hm;have aQ:H' h3.objs.size=none:=by have:=I6.free;rwa[xE] at this
   have u6:Un (frs X.stack) fp (upd H2 D (.lst [])) H' h3 s1.heap:=by have:=I6.base;subst U;exact this
   have u2:Un (frs X.stack) fp H2 (upd H2 D (.lst [])) s2.heap h3:=Un.laid (λb o e=>Z b o e) (by rw[hD];exact uA _) ay
   have aR:s1.os=s2.os:=by have:=I6.os;subst U;exact this
   have hok:HOk X.prog X.w H' s1.heap:=by
    have:=I6.hok;subst U;exact this
   refine hR D h3.objs.size H' s1 m (I2.call' (s':=s1) (ch:=fp) aR (u2.trans u6) hok I6.bare λb O=>?_) hm (I2.fpOk () aQ) hq
   erw[f2 b O,g1,g2,g3,g4,g5,g6];exact⟨g4,g2,g5,g6⟩
 exact codeAny_compStart_list (ah _ rfl) (T.self _ 0 _ _ _ (T.keep _ _ _ ap λb O o e=>ae b o (Z b o e)) (ah _ rfl))
def wB {tg O aa:Expr}{ac:oq Expr}{wi:TI}{g:TG}{tc:TT}{te:TE}{pos:Pos}(S:LcS X scope Nb nt fr)(U:X.calm=v_)(hi:PI X tg O wi)
  (hg:∀cl C s₀ H₀ fp pn,PG (blk X scope Nb cl C s₀ H₀ fp pn) tg g) (hc:∀cl C s₀ H₀ fp pn,AbJ (blk X scope Nb cl C s₀ H₀ fp pn) ac tc) (he:∀cl C s₀ H₀ fp pn,PE (blk X scope Nb cl C s₀ H₀ fp pn) aa te)
  (hs:∀x,tS O X.env x=pure x):PE X (.ListComp aa [⟨tg,O,ac,(0)⟩] scope pos) (tLC nt fr wi g tc te):=by
 exists 2,Q,I,h;have Z:Hn scope X.env=pure (m6 X.env.cells scope.names []):=Wv λy hy=>I.ok.has y (.inl (S.free _ hy rfl));rw[eval_ListComp];refine RZ (use:=U_) rfl hs Z S.kind S.names ?_;refine Eu (R:=λad C=>compPost #[X,X] X.A X.xe U_ (EP X ou σ Q) ad C) S U hi hg hc he I h λD C H' s1 m I1 hm fc q=>?_;erw[fc,f0,f1,f2,f3,f4,f5];exact[m:hm:λh' ae=>⟨.ref D,H',I1.turned (t':=s1.toks) (it:=C) (λb o hb e=>(ae.2 b hb).trans e) f0 f1 f3 f4 f5,1,q⟩]
def X3 {i:Nat}{y:Str}{tg O U:Expr}{Z:oq Expr}{wi:TI}{g:TG}{tc:TT}{te:TE}{pos aa py:Pos}(hN:X.N.Nodup)(ae:X.N[i]? =u_ y)(hy:Loc X.env.scope y)(S:LcS X scope Nb nt fr)(ac:X.calm=v_)(hi:PI X tg O wi)
  (hg:∀cl C s₀ H₀ fp pn,PG (blk X scope Nb cl C s₀ H₀ fp pn) tg g) (hc:∀cl C s₀ H₀ fp pn,AbJ (blk X scope Nb cl C s₀ H₀ fp pn) Z tc) (he:∀cl C s₀ H₀ fp pn,PE (blk X scope Nb cl C s₀ H₀ fp pn) U te)
  (hs:∀x,tS O X.env x=pure x) (af:GB (.ListComp U [⟨tg,O,Z,(0)⟩] scope pos) (u_ (.Name y py)) aa.line X.env=pure v_)
  (hf:X.fn y=v_∨X.env.scope.names.lookup y=u_ .local):
  PS X (.Assign [.Name y py] (.ListComp U [⟨tg,O,Z,(0)⟩] scope pos) aa) (Acn (tLC nt fr wi g tc te) (YV i)):=by
 exists 2,D,I,h;have ad:Hn scope X.env=pure (m6 X.env.cells scope.names []):=Wv λy hy=>I.ok.has y (.inl (S.free _ hy rfl));rw[exec_Assign_Name_used _ _ _ _ af];refine A7 (TC (A7 ?_));show V2 _ X.A (do let _<-comprehension (.ListComp U [⟨tg,O,Z,(0)⟩] scope pos) scope X.env _ (Hr []) V1 (eval O X.env) (u_ (VX (.Name y py) X.env))) _ _ s
 refine A7 (vt (RZ (use:=u_ (VX (.Name y py) X.env)) (Q:=λ_ s'=>SP X ou D .next s') rfl hs ad S.kind S.names ?_) (λ_ s' hq=>uF (uF hq)) λ_ _ e=>e);refine Eu (R:=λag C=>compPost #[X,X] X.A X.xe (u_ (VX (.Name y py) X.env)) (λ_ s'=>SP X ou D .next s') ag C) S ac hi hg hc he I h λA C H' s1 m I1 hm fc q=>?_;erw[fc,f0,f1,f2,f3,f4,f5];show V2 _ X.A (VX (.Name y py) X.env (.ref A)) _ _ s1;refine RL (nI (v:= .ref A) I1 hN ae hy (show ik (.ref A) (.ref A) from rfl) (λs' I' zq=>?_) hf);erw[zq,a,sb,ha]
 have ah:C≠a:=by
  rcases ha with rfl|ha
  ·exact f1
  ·exact λz=>f4 y a ha z.symm
 refine[m:hm.sameBut sb ah:λh' ak=>⟨_,H',I'.turned (t':=s'.toks) (it:=C) (λb o hb e=>(ak.2 b hb).trans e) f0 f1 f3 f4 f5,q⟩]
end
def OZ {X:Cx}{sc:Vl}{x:Str}(O:sc.kind= .function:=by rfl)(U:∀y∈sc.names,y.2≠ .cell:=by decide+kernel)(hn:∀y∈sc.names,y.2= .local->sc.names.lookup y.1=u_ .local:=by decide+kernel)
  (Z:∀y∈sc.names,y.2≠ .free:=by decide+kernel):LcS X sc [x] 1 []:=⟨O,U,hn,λy hy e=>A8 e (Z y hy),1,λk j x h=>by simp at h⟩
def Lk {X:Cx}{sc:Vl}{Nb:oq Str}{nt:Nat}{fr:oq Nat}(O:Vl)(U:oq Str)(Z:X.env.scope=O:=by rfl)(hN:X.N=U:=by rfl)(hk:sc.kind= .function:=by rfl)(hc:∀y∈sc.names,y.2≠ .cell:=by decide+kernel)
  (hn:∀y∈sc.names,y.2= .local->sc.names.lookup y.1=u_ .local:=by decide+kernel) (hf:∀y∈sc.names,y.2= .free->O.names.lookup y.1=u_ .cell:=by decide+kernel) (hl:↑Nb=nt+↑fr:=by rfl)
  (hz:((fr.zip (Nb.drop nt)).all λp=>decide (U[p.1]? =u_ p.2)&&decide (sc.names.lookup p.2=u_ .free))=true:=by decide+kernel):LcS X sc Nb nt fr:=by
 subst Z hN;exists hk,hc,hn,hf,hl,λk j x h1 h2=>?_;have hm:(fr.zip (Nb.drop nt))[k]? =u_ (j,x):=by
  rw[List.getElem?_zip_eq_some];exact⟨h1,by rwa[List.getElem?_drop]⟩
 have q:=List.all_eq_true.mp hz _ (uN hm);rw[uG] at q;exact[uq q.1:uq q.2]
def Aa2 {z:Str}{D:o6}{H1:Hp}{te:TE}{tl:St}{Q:VK}(f:Nat->V)(hz:↑z<=V5)(Z:H1 D=U_)
  (O:∀(i c:Nat) H (R:VK),z.cps[i]? =u_ c->ig H1 H->R (f c) H->te (u_ (.str ⟨#[c]⟩)::tl) H R)
  (hQ:∀H',ig H1 H'->H' D=u_ (.lst (z.cps.toList.map f))->Q (.ref D) H'):CS D (Its z) (YV 0) sS te (U_::tl) H1 Q:=by
 exists z.cps.size,λi σ ys H=>(∃w,σ=w::tl)/\ys=(z.cps.toList.take i).map f/\ig H1 H,hz,[[U_:1]:1:qf Z _],?_,?_
 ·rintro i σ ys H hi ⟨⟨w,rfl⟩,rfl,sm⟩ U hy;exists hi;rintro x H' ⟨rfl,c,hc,rfl⟩;dsimp![YV,sS,gN];rw[A6 rfl];refine O i c H' _ hc sm ⟨U,[u_ (.str ⟨#[c]⟩):1],?_,?_⟩
  ·rw[vc,show z.cps.toList[i]? =u_ c by simpa using hc]
   simp
  ·intro b o e;rw[qh (qi e Z)];exact sm b o e
 ·rintro σ ys H ⟨_,rfl,sm⟩ U;exists 1,hQ H sm ?_;rw[U,vf (by simp)]
inductive IsT (H:Hp)(p:List V->Prop)(v:V):Prop
 |mk (a:Addr)(vs:List V)(_:v= .ref a)(_:H a=u_ (.tup vs))(_:p vs)
inductive IsC (p:V->Prop)(q:List V->Prop)(vs:List V):Prop
 |mk (v:V)(r:List V)(_:vs=v::r)(_:p v)(_:q r)
mutual
noncomputable def Is (H:Hp):D->V->Prop
 | .non,v=>v= .non
 | .bl b,v=>v= .bl b
 | .int i,v=>v= .int i
 | .str z,v=>v= .str z/\↑z<=V5
 | .lst,v=>∃a xs,v= .ref a/\H a=u_ (.lst xs)
 | .dct,v=>∃a kvs,v= .ref a/\H a=u_ (.dK kvs)
 | .tup xs,v=>IsT H (IsL H xs) v
noncomputable def IsL (H:Hp):oq D->oq V->Prop
 | [],vs=>vs= []
 |x::xs,vs=>IsC (Is H x) (IsL H xs) vs
end
structure Tk (H H':Hp):Prop where
 tup:∀b xs,H b=u_ (.tup xs)->H' b=u_ (.tup xs)
 lst:∀b xs,H b=u_ (.lst xs)->∃ys,H' b=u_ (.lst ys)
 dct:∀b xs,H b=u_ (.dK xs)->∃ys,H' b=u_ (.dK ys)
variable {H':Hp}
def ig.tk (s:ig H H'):Tk H H':=[λb xs e=>s b _ e:λb xs e=>[xs:s b _ e]:λb xs e=>[xs:s b _ e]]
def Tk.refl (H:Hp):Tk H H:=(ig.refl H).tk
def Tk.trans (a:Tk H H1)(b:Tk H1 H2):Tk H H2:=⟨λc xs e=>b.tup c xs (a.tup c xs e),λc xs e=>let⟨ys,e1⟩:=a.lst c xs e;b.lst c ys e1,λc xs e=>let⟨ys,e1⟩:=a.dct c xs e;b.dct c ys e1⟩
variable {xs ys:oq V}
def mH.tk (k:mH p H H')(h:H p=u_ (.lst xs))(h':H' p=u_ (.lst ys)):Tk H H':=by
 exists λb zs e=>k b _ e λz=>?_,λb zs e=>?_,λb zs e=>[zs:k b _ e λz=>?_]
 ·rw[z,h] at e;cases e
 ·by_cases z:b=p
  ·exact[ys:z▸h']
  ·exact[zs:k b _ e z]
 ·rw[z,h] at e;cases e
mutual
theorem Is.mono {H H':Hp}(t:Tk H H'):∀{d:D}{v:V},Is H d v->Is H' d v
 | .non,_,h=>h
 | .bl _,_,h=>h
 | .int _,_,h=>h
 | .str _,_,h=>h
 | .lst,_,h=>by
  erw[h,a,vs,e,ha];erw[t.lst a vs ha,ys,q];exact⟨a,ys,e,q⟩
 | .dct,_,h=>by
  erw[h,a,vs,e,ha];erw[t.dct a vs ha,ys,q];exact⟨a,ys,e,q⟩
 | .tup xs,_,h=>by
  erw[h,a,vs,e,ha,O];exact⟨a,vs,e,t.tup a vs ha,IsL.mono t O⟩
theorem IsL.mono {H H':Hp}(t:Tk H H'):∀{ds:oq D}{vs:oq V},IsL H ds vs->IsL H' ds vs
 | [],_,h=>h
 |_::_,_,h=>by
  erw[h,v,r,e,h1,h2];exact⟨v,r,e,Is.mono t h1,IsL.mono t h2⟩
end
def IsL.length {H:Hp}:∀{ds:oq D}{vs:oq V},IsL H ds vs->↑vs=↑ds
 | [],_,h=>by cases(show _= [] from h);rfl
 |_::_,_,h=>by
  erw[h,v,r,rfl,_,h2];rw[uB,uB,IsL.length h2]
def IsL.get {H:Hp}:∀{ds:oq D}{vs:oq V}{i:Nat}{d:D},IsL H ds vs->ds[i]? =u_ d->∃v,vs[i]? =u_ v/\Is H d v
 | [],_,_,_,_,e=>by simp at e
 |x::_,_,0,d,h,e=>by
  erw[h,v,r,rfl,h1,_];have:x=d:=by simpa using e
  exact[v:1:this▸h1]
 |_::_,_,i+1,d,h,e=>by
  erw[h,v,r,rfl,_,h2];obtain⟨u,O,e2⟩:=IsL.get (i:=i) (d:=d) h2 (by simpa using e)
  exact⟨u,by simpa using O,e2⟩
def IsL.append {H:Hp}:∀{ds es:oq D}{vs us:oq V},IsL H ds vs->IsL H es us->IsL H (ds++es) (vs++us)
 | [],_,_,_,h,k=>by cases(show _= [] from h);exact k
 |_::_,_,_,_,h,k=>by
  erw[h,v,r,rfl,h1,h2];exact⟨v,0,h1,IsL.append h2 k⟩
variable {v:V}
def IsL.one {d:D}(h:Is H d v):IsL H [d] [v]:=⟨v,[],1,h,1⟩
variable {ds:oq D}
def Is.new {vs:oq V}(h:IsL H ds vs)(O:H p=U_):Is (upd H p (.tup vs)) (.tup ds) (.ref p):=
 ⟨p,vs,1,qg,h.mono (qf O _).tk⟩
nonrec def tyD:D->o7
 | .non=> .type "NoneType"
 | .bl _=> .type "bool"
 | .int _=> .type "int"
 | .str _=> .type "str"
 | .lst=> .type "list"
 | .dct=> .type "dict"
 | .tup _=> .type "tuple"
def Is.ty {d:D}(h:Is H d v):BY K H v (tyD d):=by
 cases d with
 |non=>cases(show v= .non from h);exact .non
 |bl b=>cases(show v= .bl b from h);exact .bl b
 |int i=>cases(show v= .int i from h);exact .int i
 |str z=>
  erw[h,rfl,_];exact .str z
 |lst=>
  erw[h,a,vs,rfl,ha];exact .lst ha
 |dct=>
  erw[h,a,vs,rfl,ha];exact .dK ha
 |tup xs=>
  erw[h,a,vs,rfl,ha,_];exact .tup ha
section
variable {X:Cx}
def DY:OpR X (Vc .Gt) (λx y H Q=>∃i j,x= .str i/\y= .str j/\Q (.bl (decide (j.cps.toList<i.cps.toList))) H):=by
 exists 2,x,y,v,u,Q,I,O,U,h;erw[h,i,j,rfl,rfl,q];erw[O,t,rfl];erw[U,t',rfl];exact PySem.P.gt_str (Qi I q rfl)
def Il (Z:X.calm=v_):jg X (.builtin "sum") (λxs H Q=>∃(p:o6) (ns:oq Int),xs= [.ref p]/\SqL X.K H p (ns.map V.int)/\Q (.int ns.sum) H):=by
 exists 2,xs,us,Q,I,r,h;erw[h,p,ns,rfl,hp,q];erw[jZ r,u,rfl,ru];cases ru;erw[I.list hp,its,rv,pl,hz];have hi:gZ its ns:=CB rv;erw[hi.allInts.items,ys,U];have O:s.heap.IsList p (intItems ys):=U▸pl.isList;refine vm (n:=1) I.tk (sum_intListG (I.ok.hd Z) O λh' tk t' hk=>?_);intro htk;have e1:ns=ys.toList.map (·.1):=by
  have q1:=hi.numsOf;rw[<-nums_intItems,<-U];exact(show numsOf its.toArray.toList=ns from q1).symm
 have e2:preSum (numAt ys) ys.size=ns.sum:=by
  rw[preSum_eq,vf (by simp),e1]
 rw[e2];exact⟨.int ns.sum,H,I.kept hk,[t':1],q⟩
inductive Aao (K:PySem.W.Frag)(x:V)(y:V)(H:Hp)(Q:VK):Prop
 |mk (a:_)(b:_)(xs:_)(_:x= .ref a)(_:y= .ref b)(_:SqT K H a xs)(_:SqT K H b [])(_:Q (.bl xs.isEmpty) H)
def kt (U:X.A.units<Vb):OpR X (Vc .Eq) (Aao X.K):=by
 exists 2,x,y,v,u,Q,I,Z,ry,h;erw[h,a,b,xs,rfl,rfl,ha,hb,q];cases Z;cases ry;erw[I.tuple ha,its,r,p,_];erw[I.tuple hb,O,r2,p2,_];cases r2;refine SeqAt.eq_tupleAt (e:=λ_=>v_) p p2 U (λj _ h2=>A8 h2 (HX _)) ⟨.bl xs.isEmpty,H,I,?_,q⟩;show Gm _=Gm _;cases r with
 |nil=>rfl
 |cons _ _=>simp
inductive KA (K:PySem.W.Frag)(x:V)(y:V)(H:Hp)(Q:VK):Prop
 |mk (a:_)(b:_)(xs:_)(ys:_)(_:x= .ref a)(_:y= .ref b)(_:SqT K H a xs)(_:SqT K H b ys)(_:↑xs+↑ys<=V5)(_:(xs= []->Q (.ref b) H))(_:(xs≠ []->ys= []->Q (.ref a) H))(_:(xs≠ []->ys≠ []->∀p,H p=U_->Q (.ref p) (upd H p (.tup (xs++ys)))))
def kW:OpR X (Vy .Add) (KA X.K):=by
 exists 2,x,y,v,u,Q,I,U,Z,h;erw[h,a,b,xs,ys,rfl,rfl,ha,hb,hz,q0,q1,q2];by_cases O:xs= []
 ·cases U;cases Z;erw[I.tuple ha,its,r1,p1,_];erw[I.tuple hb,aa,r2,p2,_];subst O;cases r1;erw[id p1,[c1,d1,t1,l1],o1,e1,n1,f1];erw[id p2,[c2,d2,t2,l2],o2,e2,n2,f2];simp only at e1 f1 e2 f2;subst e1 f1 e2 f2;exact Tb p1.typeIs p2.typeIs T8 T7 PySem.F.slot_tuple_add UI (UB _ _) (tuple_addW0 a b _ _ n1 n2 d1 d2 l1 l2 rfl) [o1:o2:⟨.ref b,H,I,1,q0 rfl⟩]
 ·exact Of ou s σ H (.ref a) (.ref b) v u Q I U Z ⟨a,b,xs,ys,1,1,ha,hb,O,hz,q1 O,q2 O⟩
end
def Tk.updL (h:H p=u_ (.lst xs)):Tk H (upd H p (.lst ys)):=by
 exists λb zs e=>?_,λb zs e=>?_,λb zs e=>[zs:?_]
 ·rw[qh (λz=>by rw[z,h] at e;cases e)];exact e
 ·by_cases z:b=p
  ·exact⟨ys,by rw[z];exact qg⟩
  ·exact⟨zs,by rwa[qh z]⟩
 ·rw[qh (λz=>by rw[z,h] at e;cases e)];exact e
def Et {J:It}{A:o6}{H1:Hp}{te:TE}{tl:St}{Q:VK}{ds:oq D}(f:D->D)(hn:↑ds<=V5)(hA:H1 A=U_)
  (aa:∀i H,ig H1 H->i<↑ds->J.go i H) (hy:∀i H x H' d,ig H1 H->ds[i]? =u_ d->J.yld i H x H'->H'=H/\Is H d x) (U:∀H,ig H1 H->J.stop ↑ds H)
  (ac:∀d x H (R:VK),d∈ds->ig H1 H->Is H d x->(∀y H',ig H H'->Is H' (f d) y->R y H')->te (u_ x::tl) H R)
  (hQ:∀H' ys,ig H1 H'->H' A=u_ (.lst ys)->IsL H' (ds.map f) ys->Q (.ref A) H'):CS A J (YV 0) sS te (U_::tl) H1 Q:=by
 exists ↑ds,λi σ ys H=>(∃w,σ=w::tl)/\IsL H ((ds.take i).map f) ys/\ig H1 H,hn,[[U_:1]:1:qf hA _],?_,?_
 ·rintro i σ ys H hi ⟨⟨w,rfl⟩,Z,sm⟩ O ae;exists aa i H sm hi,λx H' y=>?_;erw[hy i H x H' ds[i] sm (uc hi) y,rfl,hx];dsimp![YV,sS,gN];rw[A6 rfl];refine ac ds[i] x H' _ (uV hi) sm hx λy' H4 s4 ad=>⟨s4 _ _ O,[u_ x:1],?_,λb o e=>?_⟩
  ·have t:Tk H4 (upd H4 A (.lst (ys++ [y']))):=Tk.updL (s4 _ _ O);have e:(ds.take (i+1)).map f=(ds.take i).map f++ [f ds[i]]:=by
    rw[vc,uc hi,um]
    rfl
   rw[e];exact((Z.mono s4.tk).mono t).append (IsL.one (ad.mono t))
  ·rw[qh (qi e hA)];exact s4 b o (sm b o e)
 ·rintro σ ys H ⟨_,Z,sm⟩ O;exists U H sm,hQ H ys sm O ?_;rwa[vf (uA _)] at Z
def Au {K:o0}{a A:o6}{H1:Hp}{te:TE}{tl:St}{Q:VK}{ds:oq D}{vs:oq V}(f:D->D)(ha:H1 a=u_ (.tup vs))(U:IsL H1 ds vs)(hn:↑ds<=V5)(Z:H1 A=U_)
  (O:∀d x H (R:VK),d∈ds->ig H1 H->Is H d x->(∀y H',ig H H'->Is H' (f d) y->R y H')->te (u_ x::tl) H R)
  (hQ:∀H' ys,ig H1 H'->H' A=u_ (.lst ys)->IsL H' (ds.map f) ys->Q (.ref A) H'):CS A (Itt K a) (YV 0) sS te (U_::tl) H1 Q:=by
 have ln:=↑U;refine Et f hn Z (λi H sm hi=>⟨vs,vs[i]'(),SqT.of (sm _ _ ha),uc _⟩) (λi H x H' d sm hd y=>?_) (λH sm=>[vs:SqT.of (sm _ _ ha):()]) O hQ
 erw[y,rfl,y];erw[U.get hd,v,e1,e2];have e3:=y vs (SqT.of (sm _ _ ha));rw[e1] at e3;cases e3;exact[1:e2.mono sm.tk]
def IsL.bls {H:Hp}:∀{bs:oq Bool}{vs:oq V},IsL H (bs.map D.bl) vs->vs=bs.map V.bl
 | [],_,h=>h
 |_::_,_,h=>by
  erw[h,v,r,rfl,h1,h2];rw[IsL.bls h2,show v=_ from h1];rfl
variable {Q:VK}
def xG {i:Int}{d:D}(h:Is H (.tup ds) v)(hi:atI ds i=u_ d)(q:∀x,Is H d x->Q x H):NS K v (.int i) H Q:=by
 erw[h,a,vs,rfl,ha,O];erw[kn hi,j,h1,h2,h3,h4,h5];erw[O.get h2,x,Z,e2];exists a,vs,i,x,1,1,SqT.of ha,?_,q x e2;have ln:=↑O;unfold atI at hi⊢;rw[ln];cases e:ixN ↑ds i with
 |none=>rw[e] at hi;cases hi
 |some k=>
  rw[e] at hi;erw[Ax e,U,_];rw[h1] at U;cases U;exact Z
nonrec def inS (i j:Str):Bool:= !(GH j i 0 ↑j 1).isEmpty
def O7 (j:Str)(c:Nat):inS ⟨#[c]⟩ j=decide (c∈j.cps.toList):=StrLaws.found_one j c
def Pi {z:Str}{g:TG}{tb:TS}{E:mL}{σ:St}{H:Hp}(O:Nat->St->Hp->Prop)(h0:O 0 σ H)
  (hs:∀(i c:Nat) σ H,z.cps[i]? =u_ c->O i σ H->g (.str ⟨#[c]⟩) σ H λZ H2=>tb {E with nx:=O (i+1),ct:=O (i+1),bk:=E.nx} Z H2) (hd:∀σ H,O z.cps.size σ H->E.nx σ H):
  ∃W:Nat->Nat->St->Hp->Prop,(∃m,W 0 m σ H)/\∀i m σ H,W i m σ H->
   ((Its z).stop i H/\E.nx σ H)∨((Its z).go i H/\∃N:St->Hp->Prop,(∀σ' H',N σ' H'->∃m',m'<m/\W (i+1) m' σ' H')/\∀x H',(Its z).yld i H x H'->g x σ H' λZ H2=>tb {E with nx:=N,ct:=N,bk:=E.nx} Z H2):=by
 exists λi m σ H=>m=z.cps.size-i/\i<=z.cps.size/\O i σ H,⟨z.cps.size,by simp,uY _,h0⟩
 rintro i m σ H ⟨rfl,hi,p⟩;by_cases U:i<z.cps.size
 ·refine .inr ⟨U,O (i+1),λσ' H' p'=>⟨z.cps.size-(i+1),(),1,U,p'⟩,λx H' y=>?_⟩
  erw[y,rfl,c,hc,rfl];exact hs i c σ _ hc p
 ·have e:i=z.cps.size:=by omega
  exact .inl [e:hd σ H (e▸p)]
def IsL.unsnoc {H:Hp}:∀{ds:oq D}{d:D}{vs:oq V},IsL H (ds++ [d]) vs->∃us x,vs=us++ [x]/\IsL H ds us/\Is H d x
 | [],d,_,h=>by
  erw[h,v,r,rfl,h1,h2];cases(show r= [] from h2)
  exact⟨[],v,1,1,h1⟩
 |e::r,d,_,h=>by
  erw[h,v,q,rfl,h1,h2];erw[IsL.unsnoc h2,us,x,rfl,h3,h4];exact⟨v::us,x,1,⟨v,us,1,h1,h3⟩,h4⟩
nonrec def isStr:D->Bool
 | .str _=>v_
 |_=>V1
nonrec def zC:D->Bool
 | .tup _=>v_
 |_=>V1
section
variable {K:o0}
def Mt {T U:String}{b:Bool}(h:(gV T==gV U)=V1)(hm:PySem.W.kitMeta U=v_)(O:(fastBuiltinMro T).map (·.contains (gV U))=u_ b):PySem.W.kitOne K (.type T) (.type U)=u_ b:=by
 unfold PySem.W.kitOne;rw[A4 (by rw[h];exact ub)]
 show(if PySem.W.kitMeta U=v_ then PySem.W.subIn K (.type T) (.type U) else U_)=u_ b
 rw[A6 hm];exact O
def BD {T:String}(h:(gV T==gV T)=v_):PySem.W.kitOne K (.type T) (.type T)=u_ true:=by
 unfold PySem.W.kitOne;rw[A6 h]
def jK (d:D):PySem.W.kitOne K (tyD d) (.type "str")=u_ (isStr d):=by
 cases d with
 |str z=>exact BD ()
 |_=>exact Mt (b:=V1) () () ()
def xz (d:D):PySem.W.kitOne K (tyD d) (.type "tuple")=u_ (zC d):=by
 cases d with
 |tup z=>exact BD ()
 |_=>exact Mt (b:=V1) () () ()
end
def AaX (c k:Nat):decide ((⟨#[c]⟩:Str).cps.toList< [k])=decide (c<k):=by
 rw[vd];simp[Ri]
def AaJ (c k:Nat):decide ([k]<(⟨#[c]⟩:Str).cps.toList)=decide (k<c):=by
 rw[vd];simp[Ri]
def Z4 {X:Cx}{K:o0}(h:X.K=K):IxR X (NS K):=by subst h;exact qA
def Zx {X:Cx}{K:o0}(h:X.K=K):IxR X (Acx K):=by subst h;exact Yn
inductive AbS (K:PySem.W.Frag)(R:(It->Hp->Prop))(x:V)(H1:Hp):Prop
 |mk (a:_)(xs:_)(_:x= .ref a)(_:SqT K H1 a xs)(_:(↑xs<=V5->R (Itt K a) H1))
nonrec def AcO (K:o0)(tl:TE):TI:=λσ H R=>tl σ H λx H1=>AbS K R x H1
def wc {X:Cx}{tg l:Expr}{tl:TE}(U:PE X l tl):PI X tg l (AcO X.K tl):=by
 exists 2,R,I,h;refine thn (U ou s σ H _ I h) λv s1 zq=>?_;erw[zq,x,H1,O,Z,q1];erw[q1,a,xs,e,hq,q];subst e;cases Z;erw[O.tuple hq,its,rv,p,hz];refine U5 (show s1.heap.IsTuple a its.toArray from p) ?_
 exists #[0,s1],[#[0,s1]],_,_,H1,1,O.kept (t':=s1.toks) λb o e=>ud _ e,WK a _,⟨_,uL _ rfl,1,1⟩,λb hb=>?_,q hz;have e:b=#[0,s1]:=by simpa using hb
 subst e;exact O.fpOk (uA _) (O.hok.fresh (uA _))
variable {X:Cx}
def Io:jg X (.builtin "len") (λxs H Q=>∃p ys,xs= [.ref p]/\(SqL X.K H p ys∨SqT X.K H p ys)/\(↑ys<=V5->Q (.int ↑ys) H)):=by
 exists 2,xs,us,Q,I,r,h;erw[h,p,ys,e,O,q];have hz:↑ys<=sizeLine:=by
  rcases O with O|O
  ·exact(I.list O).choose_spec.2.2
  ·exact(I.tuple O).choose_spec.2.2
 exact qR ou s σ H xs us Q I r ⟨p,ys,e,O,q hz⟩
variable {n:Nat}
def ZD (h:n<=↑xs):sU xs (u_ (n:Int)) U_=xs.drop n:=by
 unfold sU;rw[HT.sIx_none,HT.sIx_nat,UM h];exact vf (by rw[vE];exact uA _)
end L2
namespace L2
open PySem PySem.Spec PyProof.Rows Builtin Builtin.Str
nonrec def mV (c:Nat):oq Nat->Nat->oq Nat
 | [],_=> []
 |a::r,i=>if a=c then i::mV c r (i+1) else mV c r (i+1)
nonrec def jN (c:Nat):Nat->oq Nat->oq (oq Nat)
 |0,L=> [L]
 |_+1,[]=> [[]]
 |n+1,a::r=>if a=c then []::jN c n r else match jN c (n+1) r with
  |p::q=>(a::p)::q
  | []=> [[a]]
nonrec def ofL (l:oq Nat):Str:=⟨l.toArray⟩
def Q1 (z:Str):ofL z.cps.toList=z:=by
 unfold ofL;simp
def JI (c:Nat):∀(n:Nat) (L:oq Nat),∃p q,jN c n L=p::q
 |0,L=>⟨L,[],by simp[jN]⟩
 |n+1,[]=>⟨[],[],by simp[jN]⟩
 |n+1,a::r=>by
  by_cases h:a=c
  ·exact⟨[],jN c n r,by simp[jN,h]⟩
  ·erw[JI c (n+1) r,p,q,e];exact⟨a::p,q,by simp[jN,h,e]⟩
def BS {c:Nat}{n:Nat}{r:oq Nat}:∀{p:oq Nat},c∉p->jN c (n+1) (p++c::r)=p::jN c n r
 | [],_=>by simp[jN]
 |a::p,h=>by
  have h1:a≠c:=λe=>h (by simp[e])
  have O:=BS (n:=n) (r:=r) (p:=p) (λz=>h (uj _ z));show jN c (n+1) (a::(p++c::r))=_;rw[jN,A4 h1,O]
def wp {c:Nat}{n:Nat}:∀{p:oq Nat},c∉p->jN c n p= [p]
 | [],_=>by cases n<;>simp[jN]
 |a::p,h=>by
  have h1:a≠c:=λe=>h (by simp[e])
  cases n with
  |zero=>simp[jN]
  |succ n=>
   have O:=wp (n:=n+1) (p:=p) (λz=>h (uj _ z));rw[jN,A4 h1,O]
def Cd (x:Str)(c i:Nat)(h:i<↑x):subAt x ⟨#[c]⟩ i=decide (x.cps.toList[i]? =u_ c):=by
 rw[StrLaws.subAt_eq];have O:i<↑x.cps.toList:=by simpa [VS] using h
 have U:(x.cps.toList.drop i).take 1= [x.cps.toList[i]]:=by
  rw[uU O]
  rfl
 show((x.cps.toList.drop i).take 1== [c])=_;rw[U,uc O];generalize x.cps.toList[i]=k;by_cases e:k=c
 ·simp[e]
 ·simp[e]
def oN (x:Str)(c n:Nat):∀(m k:Nat) (found:Array Nat) (free:Nat),k+m=↑x+1->free<=k->
  (VN (Gq k m) (found,free) (gX x ⟨#[c]⟩ ↑x n)).run.fst.toList=found.toList++(mV c (x.cps.toList.drop k) k).take (n-found.size)
 |0,k,found,free,hk,_=>by
  have hl:↑x.cps.toList<=k:=by simp[VS] at hk⊢;omega
  rw[Ug hl];simp[mV]
 |m+1,k,found,free,hk,hf=>by
  rw[List.range'_succ,Uo];unfold gX;have ac:↑x.cps.toList=↑x:=by simp[VS]
  by_cases Z:k<↑x
  ·have aa:k<↑x.cps.toList:=by omega
   rw[uU aa];have hs:=Cd x c k Z;rw[uc aa] at hs;by_cases e:x.cps.toList[k]=c
   ·have O:subAt x ⟨#[c]⟩ k=true:=by rw[hs,e];simp
    by_cases hn:found.size<n
    ·rw[A6 ⟨⟨[hn:hf],by show k+1<=↑x;omega⟩,O⟩]
     have U:=oN x c n m (k+1) (found.push k) (k+1) () (uA _)
     show(VN (Gq (k+1) m) (found.push k,k+1) (gX x ⟨#[c]⟩ ↑x n)).run.fst.toList=_;rw[U];rw[mV,A6 e,Array.toList_push,rD];obtain⟨j,hj⟩:∃j,n-found.size=j+1:=[n-found.size-1:()]
     rw[hj,Hy,show n-(found.size+1)=j by omega]
     simp
    ·rw[A4 (λz=>hn z.1.1.1)];have U:=oN x c n m (k+1) found free () ()
     show(VN (Gq (k+1) m) (found,free) (gX x ⟨#[c]⟩ ↑x n)).run.fst.toList=_;rw[U,show n-found.size=0 by omega]
     simp
   ·have O:¬subAt x ⟨#[c]⟩ k=true:=by rw[hs];intro z;exact e (uM (uq z))
    rw[A4 (λz=>O z.2)];have U:=oN x c n m (k+1) found free () ()
    show(VN (Gq (k+1) m) (found,free) (gX x ⟨#[c]⟩ ↑x n)).run.fst.toList=_;rw[U,mV,A4 e]
  ·rw[A4 (λz=>Z (by have:=z.1.2;show k<↑x;have h1:k+1<=↑x:=this;omega))]
   have U:=oN x c n m (k+1) found free () ()
   show(VN (Gq (k+1) m) (found,free) (gX x ⟨#[c]⟩ ↑x n)).run.fst.toList=_;rw[U];have h1:↑x.cps.toList<=k:=by omega
   rw[Ug h1,Ug ()]
   simp[mV]
def Kj (x:Str)(c n:Nat):occurrences x ⟨#[c]⟩ 0 ↑x n=(mV c x.cps.toList 0).take n:=by
 rw[RY];have:=oN x c n (↑x+1) 0 #[] 0 () (uA _)
 simpa using this
nonrec def att (p:oq Nat):oq (oq Nat)->oq (oq Nat)
 |q::r=>(p++q)::r
 | []=> [p]
def KK (x:Str)(c:Nat):∀(m n a b:Nat),a<=b->b+m=↑x->
  GT x 1 a ((mV c (x.cps.toList.drop b) b).take n)=(att ((x.cps.toList.drop a).take (b-a)) (jN c n (x.cps.toList.drop b))).map ofL:=by
 have aa:↑x.cps.toList=↑x:=by simp[VS]
 have O:∀i j,strSub x i j=ofL ((x.cps.toList.drop i).take (j-i)):=λi j=>by
  rw[<-Q1 (strSub x i j),rf]
 intro m
 induction m with
 |zero=>
  intro n a b Z hb;have h1:x.cps.toList.drop b= []:=Ug ()
  rw[h1];have e1:jN c n []= [[]]:=by cases n<;>simp[jN]
  rw[e1];simp![mV,List.take_nil,GT,att,uX,uD,Ud];rw[O,show ↑x-a=b-a by omega]
 |succ m ih=>
  intro n a b Z hb;have U:b<↑x.cps.toList:=by omega
  rw[uU U];cases n with
  |zero=>
   simp![FU,GT,jN,att,uD,Ud];rw[O,<-uU U];have e2:(x.cps.toList.drop a).take (↑x-a)=x.cps.toList.drop a:=vf (by rw[vE];omega)
   have e3:x.cps.toList.drop b=(x.cps.toList.drop a).drop (b-a):=by rw[List.drop_drop];congr 1;omega
   rw[e2,e3,vP]
  |succ n=>
   by_cases e:x.cps.toList[b]=c
   ·rw[mV,A6 e,Hy,GT,jN,A6 e];rw[ih n (b+1) (b+1) (uA _) ()]
    erw[JI c n (x.cps.toList.drop (b+1)),p,q,e2];rw[e2,O];simp[att]
   ·rw[mV,A4 e,ih (n+1) a (b+1) () (),jN,A4 e]
    erw[JI c (n+1) (x.cps.toList.drop (b+1)),p,q,e2];rw[e2];simp![att,uD]
    congr 2
    have e3:b+1-a=(b-a)+1:=by omega
    have hx:b-a<↑(x.cps.toList.drop a):=by rw[vE];omega
    rw[e3,List.take_succ_eq_append_getElem hx];simp[show a+(b-a)=b by omega]
def ow (x:Str)(c n:Nat):partsBetween x (occurrences x ⟨#[c]⟩ 0 ↑x n) 1=(jN c n x.cps.toList).map ofL:=by
 rw[StrLaws.partsBetween_eq,Kj];have:=KK x c ↑x n 0 0 (uA _) ()
 rw[tQ] at this;rw[this];erw[JI c n x.cps.toList,p,q,e];rw[e];simp[att]
def ZT {c:Nat}:∀{L:oq Nat}{i:Nat},mV c L i= []->c∉L
 | [],_,_=>by simp
 |a::r,i,h=>by
  by_cases e:a=c
  ·simp[mV,e] at h
  ·rw[mV,A4 e] at h;have:=ZT h;simp[vX e,this]
def XU:∀(l:oq Str) (k:Nat),iq (l.map V.str) (strsFrom k l)
 | [],_=> .nil
 |x::r,k=> .cons [k:1] (XU r (k+1))
def nz:∀{l:oq Str}{us:oq o7},iq (l.map V.str) us->∃ps:oq (Str×Tok),us=strValues ps/\ps.map (·.1)=l
 | [],_,.nil=>[[]:1:1]
 |x::r,_,.cons ⟨t,e⟩ h=>by
  erw[nz h,ps,O,e2];subst e;exact⟨(x,t)::ps,by rw[O];rfl,by rw[uD,e2]⟩
def WO (z:Str):¬Vp z<Vp " ":=by
 have h1:Vp " "=1:=by decide+kernel
 rw[h1];unfold Vp;split
 ·omega
 ·split<;>omega
def kI (c:Nat):∀(n:Nat) (L:oq Nat),↑(jN c n L)<=↑L+1
 |0,L=>by simp[jN]
 |n+1,[]=>by simp[jN]
 |n+1,a::r=>by
  by_cases h:a=c
  ·have:=kI c n r;simp[jN,h];omega
  ·have:=kI c (n+1) r;erw[JI c (n+1) r,p,q,e];rw[e] at this;simp![jN,A4 h,e];simp at this⊢;omega
nonrec def spl (n:Nat)(z:Str):oq Str:=(jN 32 n z.cps.toList).map ofL
def Di (n:Nat)(z:Str):↑(spl n z)<=↑z+1:=by
 unfold spl;rw[u9];have:=kI 32 n z.cps.toList
 simpa [VS] using this
def JM:(" ":Str)=⟨#[32]⟩:=by decide+kernel
variable {z:Str}{n:Nat}
def Dh (hn:↑z<=n∨↑z<1∨True)(h:(occurrences z " " 0 ↑z n).isEmpty=v_)(h0:n≠0):spl n z= [z]:=by
 rw[JM,Kj,List.isEmpty_iff] at h;have h1:mV 32 z.cps.toList 0= []:=by
  cases e:mV 32 z.cps.toList 0 with
  |nil=>rfl
  |cons a r=>
   rw[e] at h;obtain⟨k,rfl⟩:∃k,n=k+1:=[n-1:()]
   simp at h
 unfold spl;rw[wp (ZT h1)];simp[Q1]
section
variable {X:Cx}
inductive Aaj (x:V)(vs:List V)(H:Hp)(Q:VK):Prop
 |mk (z:_)(_:x= .str z)(_:vs= [.str " "])(_:↑z<=1000)(_:∀p,H p=U_->Q (.ref p) (upd H p (.lst ((spl (↑z+1) z).map V.str))))
variable {ou:oq (o6×Obj)}{σ:St}{H:Hp}{s:o9}{Q:VK}{ys:oq V}{its:oq o7}{t':Nat}
def JK (I:#[I])(O:iq ys its)(hz:↑ys<=V5)(q:∀p,H p=U_->Q (.ref p) (upd H p (.lst ys)))(U:0<t':=by ac_rfl):
  EP X ou σ Q (.ref #[0,s]) {s with heap:=s.heap.push {cls:= .type "list",data:= .seq its.toArray},toks:=t'}:=
 ⟨.ref #[0,s],_,I.lnew O hz,1,q _ I.fresh⟩
def Le:MtM X "str.split" Aaj:=by
 exists 2,x,vs,v,us,Q,I,Z,rv,h;erw[h,z,rfl,rfl,hz,q];erw[Z,t,rfl];erw[rv.one,u,rfl,t',rfl];have O:↑z<=sizeLine:=by rw[uE];omega
 have one:spl (↑z+1) z= [z]->∀(T:Nat),0<T->EP X ou σ Q (.ref #[0,s]) {s with heap:=s.heap.push {cls:= .type "list",data:= .seq [Vt z t].toArray},toks:=T}:=λe T hT=>by
  rw[e] at q;exact JK (ys:= [V.str z]) I (.cons (show ik (V.str z) _ from[t:1]) .nil) (by show 1<=V5;decide) q
 cases h1:(decide (↑z<(" ":Str).length)||decide (Vp z<Vp " ")) with
 |true=>
  refine vK vG (vW _ _ _) vA (U7 _ _) (FB z " " t t' h1) ?_;have h2:↑z<1:=by
   rw[GV] at h1;rcases h1 with h1|h1
   ·exact uq h1
   ·exact A8 (uq h1) (WO z)
  refine one ?_ s.toks I.tk;have e:z.cps.toList= []:=vT (by simpa [VS] using h2)
  unfold spl;rw[e,jN];rw[<-Q1 z,e]
  rfl
 |false=>
  cases U:(occurrences z " " 0 ↑z (↑z+1)).isEmpty with
  |true=>
   refine vK vG (vW _ _ _) vA (U7 _ _) (rN z " " t t' h1 () U) ?_
   exact one (Dh (.inr (.inr trivial)) U ()) s.toks I.tk
  |false=>
   have hl:=Di (↑z+1) z;have e:partsBetween z (occurrences z " " 0 ↑z (↑z+1)) (" ":Str).length=spl (↑z+1) z:=by
    rw[JM];exact ow z 32 (↑z+1)
   refine vK vG (vW _ _ _) vA (U7 _ _) (FX z " " t t' h1 () U O (by rw[e,uE];omega)) ?_
   rw[e];exact JK I (XU _ _) (by rw[u9,uE];omega) q
def xN (x y:Str)(k:Int)(t u v:Tok)(Z:(decide (k< -(2^63:Int))||decide (k≥2^63))=V1)(h1:(decide (↑x<↑y)||decide (Vp x<Vp y))=V1)(hy:(↑y==0)=V1)
  (hf:(occurrences x y 0 ↑x (GE x k)).isEmpty=v_):Gz («str.split» [[.str x t,.str y u,.int k v]:[]]) (FY x t):=by
 erw[FE x y k t u v Z,U,O];refine .of_wp λprog w A R s h=>?_;rw[O,h1,hy,hf];show V2 _ _ (do rule "str.split.same-object";ret (<-Hr [.str x t])) _ _ s
 exact A7 (UC (A7 (TD (uF [0:h]) (by show 1<=V5;decide))))
def j9 (x y:Str)(k:Int)(t u v:Tok)(Z:(decide (k< -(2^63:Int))||decide (k≥2^63))=V1)(h1:(decide (↑x<↑y)||decide (Vp x<Vp y))=v_):
  Gz («str.split» [[.str x t,.str y u,.int k v]:[]]) (FY x t):=by
 erw[FE x y k t u v Z,U,O];refine .of_wp λprog w A R s h=>?_;rw[O,h1];show V2 _ _ (do rule "str.split.sep-cannot-occur";ret (<-Hr [.str x t])) _ _ s
 exact A7 (UC (A7 (TD (uF [0:h]) (by show 1<=V5;decide))))
inductive NQ (x:V)(vs:List V)(H:Hp)(Q:VK):Prop
 |mk (z:Str)(n:Nat)(_:x= .str z)(_:vs= [.str " ",.int (n:Int)])(_:↑z<=1000)(_:0<n)(_:n<=1000)(_:∀p,H p=U_->Q (.ref p) (upd H p (.lst ((spl n z).map V.str))))
def Em:MtM X "str.split" NQ:=by
 exists 2,x,vs,v,us,Q,I,rx,rv,h;erw[h,z,n,rfl,rfl,hz,ac,hn,q];erw[rx,t,rfl];erw[IJ rv,u,u',rfl,[t',rfl],[U,rfl]];have aa:↑z<=sizeLine:=by rw[uE];omega
 have hk:(decide ((n:Int)< -(2^63:Int))||decide ((n:Int)≥2^63))=false:=by
  rw[ug (),ug ()];rfl
 have O:GE z (n:Int)=n:=by
  unfold GE;rw[A4 ()]
  omega
 have one:spl n z= [z]->∀(T:Nat),0<T->EP X ou σ Q (.ref #[0,s]) {s with heap:=s.heap.push {cls:= .type "list",data:= .seq [Vt z t].toArray},toks:=T}:=λe T hT=>by
  rw[e] at q;exact JK (ys:= [V.str z]) I (.cons (show ik (V.str z) _ from[t:1]) .nil) (by show 1<=V5;decide) q
 cases h1:(decide (↑z<(" ":Str).length)||decide (Vp z<Vp " ")) with
 |true=>
  refine vK vG (vW _ _ _) vA (F.args_str_split_3 _ _ _) (j9 z " " n t t' U hk h1) ?_;have h2:↑z<1:=by
   rw[GV] at h1;rcases h1 with h1|h1
   ·exact uq h1
   ·exact A8 (uq h1) (WO z)
  refine one ?_ s.toks I.tk;have e:z.cps.toList= []:=vT (by simpa [VS] using h2)
  obtain⟨j,rfl⟩:∃j,n=j+1:=[n-1:()]
  unfold spl;rw[e,jN];rw[<-Q1 z,e]
  rfl
 |false=>
  cases Z:(occurrences z " " 0 ↑z (GE z (n:Int))).isEmpty with
  |true=>
   refine vK vG (vW _ _ _) vA (F.args_str_split_3 _ _ _) (xN z " " n t t' U hk h1 () Z) ?_
   rw[O] at Z;exact one (Dh (.inr (.inr trivial)) Z ()) s.toks I.tk
  |false=>
   have hl:=Di n z;have e:partsBetween z (occurrences z " " 0 ↑z (GE z (n:Int))) (" ":Str).length=spl n z:=by
    rw[JM,O];exact ow z 32 n
   refine vK vG (vW _ _ _) vA (F.args_str_split_3 _ _ _) (meets_str_split_sep_max z " " n t t' U hk h1 () Z aa (by rw[e,uE];omega)) ?_
   rw[e];exact JK I (XU _ _) (by rw[u9,uE];omega) q
nonrec def JR (c:Nat):oq Nat->oq Nat
 | []=> []
 |a::r=>if a=c then [] else a::JR c r
def pY {c:Nat}:∀{L:oq Nat}{i j:Nat}{r:oq Nat},mV c L i=j::r->i<=j/\JR c L=L.take (j-i)
 | [],_,_,_,h=>by simp[mV] at h
 |a::q,i,j,r,h=>by
  by_cases e:a=c
  ·rw[mV,A6 e] at h;cases h;exact⟨uA _,by simp[JR,e]⟩
  ·rw[mV,A4 e] at h;erw[pY h,h1,h2];exists ()
   rw[JR,A4 e,h2,show j-i=(j-(i+1))+1 by omega,Hy]
def zc {c:Nat}:∀{L:oq Nat},c∉L->JR c L=L
 | [],_=>rfl
 |a::r,h=>by
  have h1:a≠c:=λe=>h (by simp[e])
  rw[JR,A4 h1,zc λz=>h (uj _ z)]
nonrec def hd (z:Str):Str:=ofL (JR 32 z.cps.toList)
def EZ (I:#[I])(O:iq ys its)(hz:↑ys<=V5)(q:∀p,H p=U_->Q (.ref p) (upd H p (.tup ys)))(U:0<t':=by ac_rfl):
  EP X ou σ Q (.ref #[0,s]) {s with heap:=s.heap.push {cls:= .type "tuple",data:= .seq its.toArray},toks:=t'}:=
 ⟨.ref #[0,s],_,I.laid (o:= .tup ys) (λ_ _ w=>ud _ w) (uA _) ⟨hz,its,O,GC _ _⟩,1,q _ I.fresh⟩
inductive Acu (x:V)(vs:List V)(H:Hp)(Q:VK):Prop
 |mk (z:_)(_:x= .str z)(_:vs= [.str " "])(_:↑z<=1000)(_:∀p a b,H p=U_->Q (.ref p) (upd H p (.tup [.str (hd z),.str a,.str b])))
def OW:MtM X "str.partition" Acu:=by
 exists 2,x,vs,v,us,Q,I,rx,rv,h;erw[h,z,rfl,rfl,hz,q];erw[rx,t,rfl];erw[rv.one,u,rfl,t',rfl];have U:↑z<=sizeLine:=by rw[uE];omega
 refine vK F.slot_str_partition (vW _ _ _) F.entry_str_partition (F.args_str_partition_2 _ _) (meets_str_partition z " " t t' () U) ?_
 cases O:occurrences z " " 0 ↑z 1 with
 |nil=>
  have h0:hd z=z:=by
   rw[JM,Kj] at O;have h1:mV 32 z.cps.toList 0= []:=by
    cases e:mV 32 z.cps.toList 0 with
    |nil=>rfl
    |cons a r=>rw[e] at O;simp at O
   unfold hd;rw[zc (ZT h1),Q1]
  refine EZ (ys:= [.str (hd z),.str To,.str To]) (t':=s.toks+1) I (.cons (show ik (V.str (hd z)) _ from⟨t,by rw[h0]⟩) (.cons (show ik (V.str _) _ from⟨0⟩) (.cons (show ik (V.str _) _ from⟨0⟩) .nil))) (by show 3<=V5;decide) λp Z=>q p _ _ Z
 |cons i r=>
  have h0:hd z=strSub z 0 i:=by
   rw[JM,Kj] at O;cases e:mV 32 z.cps.toList 0 with
   |nil=>rw[e] at O;simp at O
   |cons a r'=>
    rw[e] at O;have:a=i:=by simp at O;exact O.1
    subst this;erw[pY e,_,h2];unfold hd;rw[h2,<-Q1 (strSub z 0 a),rf,tQ]
  refine EZ (ys:= [.str (hd z),.str " ",.str _]) (t':=s.toks+1+1) I (.cons (show ik (V.str (hd z)) _ from⟨s.toks,by rw[h0]⟩) (.cons (show ik (V.str _) _ from[t':1]) (.cons (show ik (V.str _) _ from[s.toks+1:1]) .nil))) (by show 3<=V5;decide) λp Z=>q p _ _ Z
def Ip:jg X (.type "int") (λxs H Q=>∃z n,xs= [.str z]/\PySem.intText? z=u_ n/\↑z<=640/\Q (.int n) H):=by
 exists 2,xs,us,Q,I,r,h;erw[h,z,n,rfl,hn,O,q];erw[jZ r,u,rfl,t,rfl];exact PySem.W.KIN.call_text hn O ⟨.int n,H,I.tok _,⟨0⟩,q⟩
end
end L2
namespace L2
open PySem PySem.Spec PyProof.Rows
variable {X:Cx}{ou:oq (o6×Obj)}{σ:St}{H:Hp}{s:o9}{h':og}{t':Nat}
def Inv.turnedL {fp:oq o6}(I:#[I])(k:∀b o,b∉fp->s.heap.get? b=u_ o->h'.get? b=u_ o)(U:∀b∈fp,AQ X ou H b)(ht:0<t':=by ac_rfl):Inv X ou σ H {s with heap:=h',toks:=t'}:=by
 have Z:∀b u,H b=u_ u->b∉fp:=λb u e z=>by
  have:=(U b z).1;rw[this] at e;cases e
 have nL:X.env.locals∉fp:=λz=>(U _ z).2.1 rfl;refine I.step (g':=s.gens) (d':=s.drawn) (ch:=fp) (λb hb=>⟨(U b hb).2.2.2.1,(U b hb).2.1,(U b hb).2.2.2.2.1,(U b hb).2.2.2.2.2⟩) (λb o _ _ O e _=>k b o O e) (λb o _ _ O e _=>[o.slots:k b o O e]) (λ_ _ _ _ n=>n)
  (λb o O e=>[o:k b o O e]) (λ_ _ e=>e) (λ_ _ _ e=>e) (λb ps e=>⟨#[],by rw[e];simp⟩) (λm hm=>?_) (λb u e=>?_) I.bare
 ·erw[hm,o,es,ep,ho,r];exact⟨o,es,ep,k _ o nL ho,r⟩
 ·refine(I.hok b u e).stay (λc v O q=>k c v ?_ q) (λ_ q=>q) λ_ _ q=>q;rcases O with z|z
  ·rw[z];exact Z b u e
  ·exact Z c _ z
def Inv.handed {X:Cx}{ou:oq (o6×Obj)}{σ:St}{H:Hp}{s:o9}{h':og}{t':Nat}{fp:oq o6}{ys:oq V}{its:oq o7}(I:#[I])(Z:∀b∈fp,AQ X ou H b)(hl:∀b∈fp,b<#[0,s])(hv:iq ys its)(hz:↑ys<=V5)
  (hn:h'.get? #[0,s]=u_ {cls:= .type "tuple",data:= .seq its.toArray}) (hs:h'.objs.size=#[0,s]+1) (k:∀b o,b∉fp->s.heap.get? b=u_ o->h'.get? b=u_ o) (ht:0<t':=by ac_rfl):
  Inv X ou σ (upd H #[0,s] (.tup ys)) {s with heap:=h',toks:=t'}/\∀b∈fp,AQ X ou (upd H #[0,s] (.tup ys)) b:=by
 have I1:Inv X ou σ (upd H #[0,s] (.tup ys)) {s with heap:=s.heap.push {cls:= .type "tuple",data:= .seq its.toArray},toks:=t'}:=
  I.laid (o:= .tup ys) (λ_ _ w=>ud _ w) (uA _) ⟨hz,its,hv,GC _ _⟩
 have O:∀b∈fp,AQ X ou (upd H #[0,s] (.tup ys)) b:=λb U=>by
  erw[Z b U,f0,f1,f2,f3,f4,f5];have:=hl b U;exact⟨by rwa[qh (v7 this)],f1,f2,f3,f4,f5⟩
 exists I1.turnedL (h':=h') (t':=t') (λb o U e=>?_) O,O;rcases Heap.get?_push_cases (show(s.heap.push {cls:= .type "tuple",data:= .seq its.toArray}).get? b=u_ o from e) with⟨rfl,rfl⟩|e'
 ·exact hn
 ·exact k b o U e'
nonrec def Itz (K:o0)(a b:o6):It:=
 ⟨λi H=>∃xs ys x y,SqT K H a xs/\SqL K H b ys/\xs[i]? =u_ x/\ys[i]? =u_ y,
  λi H v H'=>∃p x y,v= .ref p/\H p=U_/\H'=upd H p (.tup [x,y])/\(∀xs,SqT K H a xs->xs[i]? =u_ x)/\∀ys,SqL K H b ys->ys[i]? =u_ y,
  λi H=>∃xs,SqT K H a xs/\↑xs=i⟩
nonrec def Ite (K:o0)(a:o6)(c:Int):It:=
 ⟨λi H=>∃xs x,SqT K H a xs/\xs[i]? =u_ x,λi H v H'=>∃p x,v= .ref p/\H p=U_/\H'=upd H p (.tup [.int (c+i),x])/\∀xs,SqT K H a xs->xs[i]? =u_ x,λi H=>∃xs,SqT K H a xs/\↑xs=i⟩
nonrec def tnZ (a b z p r i j:o6)(k:Nat)(h:og):Prop:=
 Vs h z p r .none/\Vh h p (.ref i) (.ref j)/\(∃u v,Vh h r u v)/\h.IsTupleIter i a k/\h.IsListIter j b k/\AwZ.Apt z p r i j a b
variable {w:oj}{K:o0}
def IK {P:oh}{aa:oq Expr}{c:Nat}{tp:Pos}(a b z p r i j:o6):MO P w K (.Tuple aa c tp) (Itz K a b) [z,p,r,i,j] z (tnZ a b z p r i j) where
 mem:=by simp
 obj:=λk h st x hx=>by
  erw[st,h1,h2,[u,v,h3],[o4,e4,c4,d4],[o5,e5,c5,d5],D];simp![uH,uW,uS] at hx;rcases hx with rfl|rfl|rfl|rfl|rfl
  ·exact⟨_,h1,λv z=>by cases z⟩
  ·exact⟨_,h2,λv z=>by cases z⟩
  ·exact⟨_,h3,λv z=>by cases z⟩
  ·exact⟨o4,e4,λv z=>by rw[d4] at z;cases z⟩
  ·exact⟨o5,e5,λv z=>by rw[d5] at z;cases z⟩
 keep:=λk h h' st kk=>by
  erw[st,h1,h2,[u,v,h3],[o4,e4,r4],[o5,e5,r5],D];exact⟨kk z (by simp) _ h1,kk p (by simp) _ h2,⟨u,v,kk r (by simp) _ h3⟩,⟨o4,kk i (by simp) _ e4,r4⟩,⟨o5,kk j (by simp) _ e5,r5⟩,D⟩
 item:=by
  intro X hP hw hK O k ou s σ H E I hf st hg;subst hP hw hK;erw[hg,xs,ys,x,y,ha,hb,hx,hy];erw[I.tuple ha,its,ra,pa,za];erw[I.list hb,ak,rb,pb,zb];erw[ra.get hx,ux,ae,af];erw[rb.get hy,uy,ag,ah];erw[st,h1,h2,[u,v,h3],h4,h5,D];have l1:=uK h1;have l2:=uK h2;have l3:=uK h3;have l4:i<#[0,s]:=by erw[h4,o,e,_];exact uK e
  have l5:j<#[0,s]:=by erw[h5,o,e,_];exact uK e
  refine AwZ.zip_go D h1 h2 h3 h4 h5 (show s.heap.IsTuple a its.toArray from pa) pb.isList (x:=ux) (y:=uy) (by simpa using ae) (by simpa using ag) λh' g1 g2 g3 g4 g5 g6 g7=>?_
  have g8:Vh h' p (.ref i) (.ref j):=g7 _ _ D.pz D.pr D.pi D.pj h2;obtain⟨I1,ac⟩:=I.handed (t':=s.toks) (ys:= [x,y]) (its:= [ux,uy]) hf (λc O=>by
   simp![uH,uW,uS] at O;rcases O with rfl|rfl|rfl|rfl|rfl<;>assumption) (.cons af (.cons ah .nil)) (by show 2<=V5;decide) g5 g6 (λc o O e=>by
    simp![uH,uW,uS,V0] at O;exact g7 c o O.1 O.2.2.1 O.2.2.2.1 O.2.2.2.2 e)
  exists 0,wpAny_letOwnedTupleGo_zip (s:={s with heap:=h'}) g1 λad z2 s2=>?_
  have U:∀c o,c≠z->h'.get? c=u_ o->ad.get? c=u_ o:=λc o O e=>s2.extBut c o O e;exists .ref #[0,s],_,I1.turnedL (fp:= [z]) (h':=ad) (t':=s.toks) (λc o O e=>U c o (by simpa using O) e) (λc O=>ac c (by simp at O;simp[O])),1,⟨_,x,y,1,I.fresh,1,λzs Z=>?_,λzs Z=>?_⟩,⟨z2,U _ _ D.pz g8,[_:_:U _ _ D.rz g2],?_,?_,D⟩,λc O=>(ac c O).1
  ·rwa[I.tuple_inj Z ha]
  ·rwa[I.list_inj Z hb]
  ·erw[g3,o,e,q];exact[o:U _ _ D.iz e:q]
  ·erw[g4,o,e,q];exact[o:U _ _ D.jz e:q]
 done:=by
  intro X hP hw hK O k ou s σ H E I hf st hg;subst hP hw hK;erw[hg,xs,ha,hx];erw[I.tuple ha,its,ra,pa,za];have hl:=↑ra;erw[st,h1,h2,[u,v,h3],h4,h5,D];refine AwZ.zip_stop (A:=X.A) (I.ok.hd O) D h1 h2 h4 (show s.heap.IsTuple a its.toArray from pa) (by simp;omega) λh' kk=>[1:?_]
  exact I.turnedL (t':=s.toks) (λc o O e=>by
   simp![uH,uW,uS,V0] at O;exact kk c o O.1 O.2.2.1 O.2.2.2.1 O.2.2.2.2 e) hf
 self:=λ_ _ _ _ _ st h=>rR st.1 h
section
variable {X:Cx}
variable {n:Nat}
def Abz {a b:Nat}(ha:a<n)(O:b<n):AwZ.Apt (n+4) (n+2) (n+3) n (n+1) a b:=by
 constructor<;>exact(show _≠((_:Nat)) by omega)
def Pj {x:Nat}(h:x=n+4∨x=n+2∨x=n+3∨x=n∨x=n+1):n<=x:=by omega
def Sg {m x:Nat}(hm:m=n+1)(h:x=m∨x=n):n<=x:=by omega
nonrec def Ad6 (K:o0)(ta:TA):TI:=λσ H R=>ta σ H λvs H1=>∃a b xs ys,vs= [.ref a,.ref b]/\SqT K H1 a xs/\SqL K H1 b ys/\R (Itz K a b) H1
def Aav {O:oq Expr}{c:Nat}{tp p pos:Pos}{e1 e2:Expr}{ta:TA}(hg:Gl X "zip")(hm:X.mg "zip"=U_)(ha:PA X [e1,e2] ta)(hs:V6 [e1,e2] X.env= [(V1,eval e1 X.env),(V1,eval e2 X.env)])(U:V6 [e2] X.env= [(V1,eval e2 X.env)]):
  PI X (.Tuple O c tp) (.Call (.Name "zip" p) [e1,e2] [] pos) (Ad6 X.K ta):=by
 exists 2,R,I,h;refine hX (wJ I hg hm boot_zip (vD (thn (ha pos ou s σ H _ I h) λus s1 zq=>?_) (by rw[hs,U]) (by rw[U];rfl)));erw[zq,vs,H1,Z,r1,q1]
 erw[q1,a,b,xs,ys,e,hA,hB,q];subst e;erw[IJ r1,u,u',rfl,ru,ac];cases ru;cases ac;erw[Z.tuple hA,its,ra,pa,za];erw[Z.list hB,ad,rb,pb,zb];have la:a<#[0,s1]:=by erw[id pa,o,e,_];exact uK e
 have lb:b<#[0,s1]:=by erw[id pb,o,n,e,_];exact uK e
 refine AwZ.zip_call (show s1.heap.IsTuple a its.toArray from pa) pb.isList λh2 g1 g2 g3 g4 g5 g6 g7=>?_
 refine rR (s:={s1 with heap:=h2}) g1 ?_
 exists _,[#[0,s1]+4,#[0,s1]+2,#[0,s1]+3,#[0,s1],#[0,s1]+1],_,_,H1,1,Z.kept (t':=s1.toks) g7,IK a b _ _ _ _ _,⟨g1,g2,[_:_:g3],g4,g5,?_⟩,λx hx=>?_,q
 ·exact Abz la lb
 ·have aa:#[0,s1]<=x:=by
   simp![uH,uW,uS] at hx;exact Pj hx
  exact Z.fpOk aa (Z.hok.fresh aa)
nonrec def tnE (a e j:o6)(c:Int)(k:Nat)(h:og):Prop:=(∃old,VG h e j (c+k) old)/\h.IsTupleIter j a k/\e≠j
def C4 {P:oh}{aa:oq Expr}{cc:Nat}{tp:Pos}(a e j:o6)(c:Int):MO P w K (.Tuple aa cc tp) (Ite K a c) [e,j] e (tnE a e j c) where
 mem:=by simp
 obj:=λk h st x Z=>by
  erw[st,[U,h1],[o4,e4,c4,d4],D];simp![uH,uW,uS] at Z;rcases Z with rfl|rfl
  ·exact⟨_,h1,λv z=>by cases z⟩
  ·exact⟨o4,e4,λv z=>by rw[d4] at z;cases z⟩
 keep:=λk h h' st kk=>by
  erw[st,[U,h1],[o4,e4,r4],D];exact⟨⟨U,kk e (by simp) _ h1⟩,⟨o4,kk j (by simp) _ e4,r4⟩,D⟩
 item:=by
  intro X hP hw hK O k ou s σ H E I hf st hg;subst hP hw hK;erw[hg,xs,x,ha,Z];erw[I.tuple ha,its,ra,pa,za];erw[ra.get Z,ux,af,ag];erw[st,[U,h1],h4,D];have l1:=uK h1;have l4:j<#[0,s]:=by erw[h4,o,e,_];exact uK e
  refine AwZ.enum_go h1 h4 (show s.heap.IsTuple a its.toArray from pa) (x:=ux) (by simpa using af) D λh' g1 g3 g5 g6 g7=>?_
  obtain⟨I1,ac⟩:=I.handed (t':=s.toks+1) (ys:= [.int (c+k),x]) (its:= [.int (c+k) s.toks,ux]) hf (λc O=>by
   simp![uH,uW,uS] at O;rcases O with rfl|rfl<;>assumption) (.cons (show ik (V.int (c+k)) _ from⟨0⟩) (.cons ag .nil)) (by show 2<=V5;decide) g5 g6 (λc o O e=>by
    simp![uH,uW,uS,V0] at O;exact g7 c o O.1 O.2 e)
  exists 0,wpAny_letOwnedTupleGo_enum (s:={s with heap:=h',toks:=s.toks+1}) g1 λad z2 s2=>?_
  have ae:∀c o,c≠e->h'.get? c=u_ o->ad.get? c=u_ o:=λc o O e=>s2.extBut c o O e;exists .ref #[0,s],_,I1.turnedL (fp:= [e]) (h':=ad) (t':=s.toks+1) (λc o O e=>ae c o (by simpa using O) e) (λc O=>ac c (by simp at O;simp[O])),1,⟨_,x,1,I.fresh,1,λzs ah=>?_⟩,[[ux:?_]:?_:D],λc O=>(ac c O).1
  ·rwa[I.tuple_inj ah ha]
  ·have e1:c+((k+1:Nat):Int)=c+(k:Int)+1:=by omega
   rwa[e1]
  ·erw[g3,o,e,q];exact[o:ae _ _ (vX D) e:q]
 done:=by
  intro X hP hw hK O k ou s σ H E I hf st hg;subst hP hw hK;erw[hg,xs,ha,Z];erw[I.tuple ha,its,ra,pa,za];have hl:=↑ra;erw[st,[U,h1],h4,D];refine AwZ.enum_stop (A:=X.A) (I.ok.hd O) h1 h4 (show s.heap.IsTuple a its.toArray from pa) (by simp;omega) λh' kk=>[1:?_]
  exact I.turnedL (t':=s.toks) (λc o O e=>by
   simp![uH,uW,uS,V0] at O;exact kk c o O.2 e) hf
 self:=λ_ _ _ _ _ st h=>by
  erw[st,[U,h1],_];exact rY h1 h
nonrec def Ix (K:o0)(w:oj)(a:o6):Prop:=(a==Vn)=V1/\∃es n,K.lookup a=u_ ⟨.type "dict",U_,.dict es n,#[]⟩/\PySem.W.KeysLit w.params es.toList
inductive Acv (K:PySem.W.Frag)(w:World)(x:V)(y:V)(H:Hp)(Q:VK):Prop
 |mk (z:_)(a:_)(r:_)(_:x= .str z)(_:y= .ref a)(_:Ix K w a)(_:PySem.W.nsIn K a z=u_ r)(_:Q (.bl (!r.isSome)) H)
def Od:OpR X (Vc .NotIn) (Acv X.K X.w):=by
 exists 2,x,y,v,u,Q,I,U,Z,h;erw[h,z,a,r,rfl,rfl,[hs,es,n,O,hk],hn,q];erw[U,t,rfl];cases Z;have hm:=PySem.W.mapOf_K (prog:=X.prog) (w:=X.w) I.kIn O hk;refine Fs (Tn X.prog X.w z t) hs hm ⟨.bl (!r.isSome),H,I.tok _,?_,q⟩;rw[PySem.W.find_K O hn]
 rfl
inductive AdY (K:PySem.W.Frag)(w:World)(x:V)(y:V)(H:Hp)(Q:VK):Prop
 |mk (z:_)(a:_)(u:_)(v:_)(_:x= .ref a)(_:y= .str z)(_:Ix K w a)(_:PySem.W.nsIn K a z=u_ (u_ u))(_:ik v u)(_:Q v H)
def Ady:IxR X (AdY X.K X.w):=by
 intro value slice ou s σ H x y v u Q I U Z h hs;erw[h,z,a,u',v',rfl,rfl,[_,es,n,O,hk],hn,hr,q];erw[Z,t,rfl];cases U;have hm:=PySem.W.mapOf_K (prog:=X.prog) (w:=X.w) I.kIn O hk;exact tR hm.typeIs slot_dict_getitem.lookup (rW (Tn X.prog X.w z t) hm (PySem.W.find_K O hn) ⟨v',H,I.tok _,hr,q⟩) hs
end
section
variable {X:Cx}{K:o0}
def DO {es:oq Expr}{k:Nat}{t:TGs}{n:Nat}{pos:Pos}(U:X.K=K)(Z:X.calm=v_)(h:PGs X es t)
  (hn:↑(gP es X.env)=n) (O:(gP es X.env).findIdx? (·.1)=U_):PG X (.Tuple es k pos) (AcW K n t):=by subst U;exact Wl Z h hn O
end
def kh {lo:Int}{n:Nat}{L:o6}{H1:Hp}{te:TE}{tl:St}{Q:VK}(C:Nat->oq V->Hp->Prop)(hn:n<=V5)(h0:C 0 [] (upd H1 L (.lst [])))
  (Z:∀i ys H,i<n->C i ys H->H L=u_ (.lst ys)->↑ys<=i->∀R:VK,(∀y H4,H4 L=u_ (.lst ys)->C (i+1) (ys++ [y]) (upd H4 L (.lst (ys++ [y])))->R y H4)->te (u_ (.int (lo+(i:Int)))::tl) H R)
  (hQ:∀ys H,C n ys H->H L=u_ (.lst ys)->Q (.ref L) H):CS L (Itr lo n) (YV 0) sS te (U_::tl) H1 Q:=by
 exists n,λi σ ys H=>(∃x,σ=x::tl)/\C i ys H,hn,[[U_:1]:h0],?_,?_
 ·rintro i σ ys H hi ⟨⟨x,rfl⟩,O⟩ U hy;exists hi;rintro x' H' ⟨rfl,rfl⟩;dsimp![YV,sS,gN];rw[A6 rfl];exact Z i ys H' hi O U hy _ λy H4 e c=>[e:⟨0⟩:c]
 ·rintro σ ys H ⟨_,O⟩ U;exact[uA _:hQ ys H O U]
def Aa0 {K:o0}{a b A:o6}{H1:Hp}{te:TE}{tl:St}{Q:VK}{xs ys:oq V}(f:Nat->D)(ha:∀H,ig H1 H->SqT K H a xs)(hb:∀H,ig H1 H->SqL K H b ys)(ac:↑xs=↑ys)(hn:↑xs<=V5)(hA:H1 A=U_)
  (Z:∀i x y H (R:VK),xs[i]? =u_ x->ys[i]? =u_ y->ig H1 H->(∀v H',ig H H'->Is H' (f i) v->R v H')->te (u_ x::u_ y::tl) H R)
  (hQ:∀H' vs,ig H1 H'->H' A=u_ (.lst vs)->L2.IsL H' ((Va ↑xs).map f) vs->Q (.ref A) H'):CS A (Itz K a b) (AcW K 2 (Pe (YV 0) (Pe (YV 1) Adz))) sS te (U_::U_::tl) H1 Q:=by
 exists ↑xs,λi σ us H=>(∃u v,σ=u::v::tl)/\L2.IsL H ((Va i).map f) us/\ig H1 H,hn,[[U_:U_:1]:1:qf hA _],?_,?_
 ·rintro i σ us H hi ⟨⟨u,v,rfl⟩,hl,sm⟩ O ad;have hx:xs[i]? =u_ xs[i]:=uc hi;have hy:ys[i]? =u_ (ys[i]'()):=uc _
  exists ⟨xs,ys,_,_,ha H sm,hb H sm,hx,hy⟩,λx H' y=>?_;erw[y,p,x',y',rfl,hp,rfl,e1,e2];have e1:=e1 xs (ha H sm);have e2:=e2 ys (hb H sm);have s2:ig H (upd H p (.tup [x',y'])):=qf hp _;exists p,0,SqT.of qg,1,x',0,y',0,1;dsimp![sS];rw[A6 rfl];refine Z i x' y' _ _ e1 e2 (sm.trans s2) λy4 H4 U aa=>⟨U _ _ (s2 _ _ O),[_:0],?_,λb o e=>?_⟩
  ·have t:Tk H4 (upd H4 A (.lst (us++ [y4]))):=Tk.updL (U _ _ (s2 _ _ O));rw[vY,um];exact((hl.mono (s2.trans U).tk).mono t).append (IsL.one (aa.mono t))
  ·rw[qh (qi e hA)];exact U b o (s2 b o (sm b o e))
 ·rintro σ us H ⟨_,hl,sm⟩ O;exact[[xs:ha H sm:1]:hQ H us sm O hl]
def xT (z:Str)(l:oq Str):inV (.str z) (l.map V.str)=decide (z∈l):=by
 unfold inV;rw[Hz,vO,FC,vi];constructor
 ·rintro⟨x,U,e⟩;have O:(x==z)=true:=e;rw[beq_iff_eq] at O;exact O▸U
 ·intro h;exact⟨z,h,by show(z==z)=v_;exact beq_self_eq_true z⟩
def Jh (l:oq Str):(l.map V.str).all zi=true:=by
 rw[Us,U3];intro x _
 rfl
inductive Pt where
 |s (z:Str)|n (i:Int)
nonrec def Pt.d:Pt->D
 | .s z=> .str z
 | .n i=> .int i
nonrec def Pt.t:Pt->Str
 | .s z=>z
 | .n i=>Ve i
inductive Kd where
 |box|line|words
 deriving DecidableEq
nonrec def Kd.t:Kd->Str
 | .box=>"box"
 | .line=>"line"
 | .words=>"words"
nonrec def BX:oq Str:= ["a","b","c","d","e","f","g","h"]
nonrec def FRM:oq (Str×oq Kd):= [("text",[.box,.words]),("self",[.box]),("copy",[.box,.box]),("row",[.box]),("put",[.box,.box]),("join",[.box,.box]),("first",[.box,.box]),("rest",[.box,.box]),
 ("size",[.box,.box]),("cut",[.box,.box,.box]),("glue",[.box,.box,.box]),("ask",[.box,.box]),("has",[.box,.box]),("names",[.box,.box]),("go",[.line]),("like",[.box,.box,.line]),
 ("rowed",[.box,.line]),("none",[.box,.line]),("say",[.box]),("fault",[])]
nonrec def Aaq (n m:Nat):Kd->Pt->Prop
 | .box,.s z=>z∈BX
 | .line,.n i=>1<=i/\i<=n
 | .words,.s z=>↑z<=m/\z.cps.toList.all QV=v_
 |_,_=>False
nonrec def xS (n m:Nat):oq Kd->oq Pt->Prop
 | [],[]=>True
 |k::ks,p::ps=>Aaq n m k p/\xS n m ks ps
 |_,_=>False
noncomputable abbrev Rw:=Str×oq Pt
nonrec def j8 (n m:Nat)(r:Rw):Prop:=∃ks,(r.1,ks)∈FRM/\xS n m ks r.2
nonrec def txs (r:Rw):oq Str:=r.1::r.2.map Pt.t
nonrec def yM (r:Rw):Str:=V9 " " (txs r)
nonrec def rowD (r:Rw):D:= .tup [.str r.1,.tup (r.2.map Pt.d)]
def XJ:∀(x y:Str) (r:oq Str),(V9 " " (x::y::r)).cps.toList=x.cps.toList++32::(V9 " " (y::r)).cps.toList:=by
 intro x y r;show((x.cps++(" ":Str).cps)++(V9 " " (y::r)).cps).toList=_;rw[FH,FH,JM];simp
noncomputable abbrev CN (z:Str):Prop:=32∉z.cps.toList
def W8:∀(l:oq Str) (z:Str) (n:Nat),(∀p∈l,CN p)->(n=0∨CN z)->spl (↑l+n) (V9 " " (l++ [z]))=l++ [z]
 | [],z,n,_,hz=>by
  show spl (0+n) z= [z];rw[TF];unfold spl;rcases hz with rfl|hz
  ·rw[jN];show [ofL z.cps.toList]= [z];rw[Q1]
  ·rw[wp hz];show [ofL z.cps.toList]= [z];rw[Q1]
 |p::l,z,n,hl,hz=>by
  have O:=W8 l z n (λq U=>hl q (uj _ U)) hz;have Z:CN p:=hl p ui;obtain⟨y,r,e⟩:∃y r,l++ [z]=y::r:=by cases l<;>exact[_:0]
  show spl ((↑l+1)+n) (V9 " " (p::(l++ [z])))=p::(l++ [z]);rw[e] at O⊢;unfold spl at O⊢;rw[XJ,show ↑l+1+n=(↑l+n)+1 by omega,BS Z,uD,O,Q1]
def Pa (w:Str)(r:oq Str)(h:CN w):hd (V9 " " (w::r))=w:=by
 have O:∀(p q:oq Nat),32∉p->JR 32 (p++32::q)=p:=by
  intro p
  induction p with
  |nil=>intro q _;simp[JR]
  |cons a p U=>
   intro q h;have h1:a≠32:=λe=>h (by simp[e])
   show JR 32 (a::(p++32::q))=a::p;rw[JR,A4 h1,U q λz=>h (uj _ z)]
 cases r with
 |nil=>
  show ofL (JR 32 w.cps.toList)=w;rw[zc h,Q1]
 |cons y r=>
  unfold hd;rw[XJ,O _ _ h,Q1]
def BF:∀(l:oq Str),l≠ []->(V9 " " l).length+1=(l.map (·.length)).sum+↑l
 | [],h=>A8 rfl h
 | [x],_=>by simp[V9]
 |x::y::r,_=>by
  have O:=BF (y::r) (by simp)
  have e:(V9 " " (x::y::r)).length=↑x+(1+(V9 " " (y::r)).length):=by
   have:=A9 Vv (XJ x y r);rw[uJ,uB] at this;simp![vq] at this;show(V9 " " (x::y::r)).cps.size=_;rw[this];show x.cps.size+((V9 " " (y::r)).cps.size+1)=x.cps.size+(1+(V9 " " (y::r)).cps.size);omega
  rw[e,uD,H_,uB];omega
def oO {i:Int}(h1:1<=i)(h2:i<=40):↑(Ve i:Str)<=2/\CN (Ve i:Str)/\(Ve i:Str).cps.toList.all QV=true:=by
 obtain⟨k,rfl⟩:∃k:Fin 41,i=((k.val:Nat):Int):=⟨[i.toNat:()],by simp;omega⟩
 have O:∀k:Fin 41,↑(Ve ((k.val:Nat):Int):Str)<=2/\decide (CN (Ve ((k.val:Nat):Int):Str))=v_/\(Ve ((k.val:Nat):Int):Str).cps.toList.all QV=true:=by decide+kernel
 erw[O k,a,b,c];exact[a:uq b:c]
def Kn {i:Int}(h1:1<=i)(h2:i<=40):PySem.intText? (Ve i:Str)=u_ i:=PySem.W.KIN.num_reads () ()
variable {z:Str}
def MM (h:z∈BX):↑z=1/\CN z/\z.cps.toList.all QV=true:=by
 have O:∀z∈BX,↑z=1/\decide (CN z)=v_/\z.cps.toList.all QV=true:=by decide+kernel
 erw[O z h,a,b,c];exact[a:uq b:c]
def CY:∀x∈FRM,decide (CN x.1)=v_/\x.1.cps.toList.all QV=true:=by decide+kernel
def Ph:∀x∈FRM,(decide (Kd.words∈x.2)=V1)∨x=(("text":Str),[Kd.box,Kd.words]):=by decide+kernel
def EU:∀x∈FRM,∀y∈FRM,x.1=y.1->x=y:=by decide+kernel
variable {n:Nat}
def n9 {m:Nat}(hn:n<=40){k:Kd}{p:Pt}(h:Aaq n m k p)(O:k≠ .words):CN p.t:=by
 cases k<;>cases p<;>simp![Aaq] at h
 ·exact(MM h).2.1
 ·exact(oO h.1 ()).2.1
 ·exact A8 rfl O
def zJ {n m:Nat}:∀{ks:oq Kd}{ps:oq Pt},xS n m ks ps->↑ps=↑ks
 | [],[],_=>rfl
 |_::_,_::_,h=>by rw[uB,uB,zJ h.2]
 | [],_::_,h=>h.elim
 |_::_,[],h=>h.elim
def Ws {n m:Nat}(hn:n<=40):∀{ks:oq Kd}{ps:oq Pt},xS n m ks ps->Kd.words∉ks->∀p∈ps.map Pt.t,CN p
 | [],[],_,_=>λp O=>by simp at O
 |_::_,_::_,h,hk=>λp O=>by
  rw[uD] at O;rcases Aa.mp O with rfl|O
  ·exact n9 hn h.1 λe=>hk (by simp[e])
  ·exact Ws hn h.2 (λz=>hk (uj _ z)) p O
 | [],_::_,h,_=>h.elim
 |_::_,[],h,_=>h.elim
variable {r:Rw}
def OY {m:Nat}(h:j8 n m r):hd (yM r)=r.1:=by
 erw[h,ks,O,U];exact Pa _ _ (uq (CY _ O).1)
variable {ks:oq Kd}
def Lj {m:Nat}(hn:n<=40)(hk:(r.1,ks)∈FRM)(Z:xS n m ks r.2):spl (if Kd.words∈ks then ↑ks else(yM r).length+1) (yM r)=txs r:=by
 have hw:CN r.1:=uq (CY _ hk).1;by_cases h:Kd.words∈ks
 ·rw[A6 h];rcases Ph _ hk with e|e
  ·simp at e;exact A8 h e
  ·have e1:ks= [.box,.words]:=A9 Prod.snd e;subst e1;erw[r,w,ps]
   match ps,Z with
   | [p,q],Z=>
    have:=W8 [w,p.t] q.t 0 (λz hz=>by
     simp![uH,uW,uS] at hz;rcases hz with rfl|rfl
     ·exact hw
     ·exact n9 hn Z.1 ()) (.inl rfl)
    exact this
 ·rw[A4 h];have hf:∀p∈txs r,CN p:=λp U=>by
   rcases Aa.mp U with rfl|U
   ·exact hw
   ·exact Ws hn Z h p U
  rcases Fq (txs r) with e|⟨l,z,e⟩
  ·simp[txs] at e
  ·rw[RJ] at e;have O:=BF (txs r) (by simp[txs])
   unfold yM;rw[e] at hf O⊢;have hl:↑l<=(V9 " " (l++ [z])).length:=by
    rw[uJ] at O;simp![uB,UJ] at O;omega
   have:=W8 l z ((V9 " " (l++ [z])).length+1-↑l) (λq hq=>hf q (vh _ hq)) (.inr (hf z (by simp)))
   rw[show ↑l+((V9 " " (l++ [z])).length+1-↑l)=(V9 " " (l++ [z])).length+1 by omega] at this
   exact this
abbrev VE:oq o7:= [.type "ValueError",.type "Exception",.type "BaseException",.type "object"]
nonrec def CX1 (P:oh)(w:oj):CXT:=λouter H s E e s'=>∃(ea C:o6) (a0:o7) (H':Hp) (B:og),e= .ref ea/\s'.os=s.os/\VO s'.gens/\0<s'.toks/\Un (frs outer) [] H H' s.heap s'.heap/\HOk P w H' B/\
 FI B outer ea (.ref C) a0 s'.heap/\(∀b o,s.heap.get? b=u_ o->b∉frs outer->∃o',B.get? b=u_ o')/\E (.ref ea) (u_ C) H'
variable {h:og}{C:o6}
def Abt {bmB:oq o7}{newId:String}(X:K.In h)(q:PySem.W.excIn K C bmB newId=v_):
  ∃bm N nm Z bs hdct sn sub ab col dd k0 k1 k2 k3 k5 mN,h.get? C=u_ (excClassObj nm Z C N bs bm hdct sn sub ab col dd k0 k1 k2 k3 k5 newId)/\h.Ns N mN/\mN "__init__"=U_/\OwnTail h bmB bm:=by
 unfold PySem.W.excIn at q;split at q
 ·rename_i dd cd sl ho
  split at q
  ·rename_i C' bm k0 k1 k2 k3 n k5 hm hs
   simp![uG,beq_iff_eq,Bool.not_eq_true'] at q;erw[q,[[[[rfl,rfl],O],ht],hok],U];erw[cd,nm,bs,aa,ns,Z,hd,sn,sub,ab,col,ac];dsimp only at hm O hok U;subst hm O;obtain⟨l⟩:=sl;simp only at hs;subst hs;exact⟨bm,ns,nm,Z,bs,hd,sn,sub,ab,col,dd,k0,k1,k2,k3,k5,_,X _ _ ho,.of_isNs (PySem.W.isNs_of_in X hok),PySem.W.nsMap_none_of_in X hok U,PySem.W.tail_of_in X ht⟩
  ·cases q
 ·cases q
def si {h base B:og}:∀{l:oq Env},h.FunFrames base l->(∀b∈frs l,B.get? b=U_)->h.FunFrames B l
 | [],_,_=>trivial
 |env::r,⟨hk,⟨L,o,hf,hn,ho,hd⟩,hr⟩,hB=>by
  have e:frs (env::r)=L::frs r:=by unfold frs;rw[UA,hf]
  rw[e] at hB;exact[hk:⟨L,o,hf,hB L ui,ho,hd⟩:si hr λb O=>hB b (uj _ O)]
nonrec def So (E:XK)(C:o6)(ta:TE):TS:=λ_ σ H=>IL ta Sq σ H λvs H1=>↑vs=1/\∀e,E (.ref e) (u_ C) H1
def W1 {P:oh}{w:oj}{K:o0}{mg:Str->ot o7}{base:og}{N:oq Str}{qual:Str}{scope:Vl}{f:o6}{U:o7}{A:om}{outer:oq Env}{s₀:o9}{H₀:Hp}{E:XK}
  {x:Str}{C:o6}{np cpos pos:Pos}{aa:Expr}{ta:TE} (hx:PySem.W.excIn K C VE "ValueError.__new__"=v_) (hg:Gl (cxOf (CX1 P w) P w K mg base N qual scope f U A outer s₀ H₀ E) x) (hm:mg x=u_ (.ref C))
  (ha:PE (cxOf (CX1 P w) P w K mg base N qual scope f U A outer s₀ H₀ E) aa ta) (hd:(x==("__debug__":Str))=V1)
  (hs:V6 [aa] (V8 qual scope #[0,s₀] f U)= [(V1,eval aa (V8 qual scope #[0,s₀] f U))]):
  PS (cxOf (CX1 P w) P w K mg base N qual scope f U A outer s₀ H₀ E) (.Raise (u_ (.Call (.Name x np) [aa] [] cpos)) U_ pos) (So E C ta):=by
 exists 2,D,I,h;erw[Abt I.mod.kin hx,bm,Nn,nm,q,bs,hdct,sn,sub,ab,col,dd,k0,k1,k2,k3,k5,mN,hC,hN,aq,T];have hT:bm.contains (.type "BaseException")=true:=T.hasType ()
 refine wpAny_Raise_call_subT (C:=C) (nm:=nm) (q:=q) (N:=Nn) (bs:=bs) (bm:=bm) (hdct:=hdct) (sn:=sn) (sub:=sub) (ab:=ab) (col:=col) (dd:=dd) (k0:=k0) (k1:=k1) (k2:=k2) (k3:=k3) (k5:=k5)
  (mN:=mN) F.excBase_ValueError hT (I.ok.hd rfl) (by show(Vd cpos (V6 [aa] (V8 qual scope #[0,s₀] f U))).any (·.1)=V1;rw[hs];rfl) aq (wy I hg hm [1:?_] hd)
 have au:PA (cxOf (CX1 P w) P w K mg base N qual scope f U A outer s₀ H₀ E) [aa] (IL ta Sq):=qb ha qd hs;have hp:=au cpos ou s σ H (λvs H1=>↑vs=1/\∀e,E (.ref e) (u_ C) H1) I h;show V2 _ _ (evalArgs (.ref C) v_ (Vd cpos (V6 [aa] (V8 qual scope #[0,s₀] f U))) []) _ _ s;have aw:V6 [aa] (cxOf (CX1 P w) P w K mg base N qual scope f U A outer s₀ H₀ E).env= [(V1,eval aa (V8 qual scope #[0,s₀] f U))]:=hs;rw[aw] at hp;rw[hs];refine U9 (vt hp (λvs s₂ h₂=>?_) λ_ _ y=>y);erw[h₂,ws,H2,I2,r2,q2];erw[q2,hl,q2];have bk:=I2.bk;have ax:↑vs<=sizeLine:=by rw[<-↑r2,hl];decide
 exists 1,ax,bk _ _ hC,hN.keeps bk,T.keeps bk,λh' e ad=>?_;show V2 (Vg P w) (A.deeper (V8 qual scope #[0,s₀] f U)) (Tg (V8 qual scope #[0,s₀] f U) (.ref e)) (λ_ ag=>CX1 P w outer H₀ s₀ E (.ref e) ag) (λe' ag=>CX1 P w outer H₀ s₀ E e' ag) _;have ay:(A.deeper (V8 qual scope #[0,s₀] f U)).frames=u_ (V8 qual scope #[0,s₀] f U::outer):=I2.ok.frames;have ak:s₂.heap.FunFrames base (V8 qual scope #[0,s₀] f U::outer):=I2.stack;have ah:∀b∈frs (V8 qual scope #[0,s₀] f U::outer),H2 b=none:=I2.stkFree;have al:frs (V8 qual scope #[0,s₀] f U::outer)=#[0,s₀]::frs outer:=rfl;have ap:#[0,s₀]<=#[0,s₀]:=I2.ok.above;have O:Un (frs outer) [] H₀ H2 s₀.heap s₂.heap:=I2.base;refine wpAny_leaves_madeW (base:=TI.gone s₂.heap (frs (V8 qual scope #[0,s₀] f U::outer))) (h:=s₂.heap) (L:=#[0,s₀]) ay rfl (λb o e=>(TI.gone_some e).2) (si ak λb Z=>TI.gone_none Z) ad λam t af aB _ aA=>?_;have ae:∀b o,b∉frs (V8 qual scope #[0,s₀] f U::outer)->s₂.heap.get? b=u_ o->am.get? b=u_ o:=λb o Z e=>af.1 b o (by rwa[TI.gone_get Z])
 have slots:∀b o,s₂.heap.get? b=u_ o->(∀vs,o.data≠ .fields vs)->∃sl,am.get? b=u_ {o with slots:=sl}:=λb o e hn=>aA b o (ad.keeps b o e) hn
 have nd:∀b∈frs outer,∀o,s₂.heap.get? b=u_ o->∀vs,o.data≠ .fields vs:=λb Z o e=>by
  obtain⟨_,o',e',hn⟩:=ak.mem (show b∈(V8 qual scope #[0,s₀] f U::outer).filterMap (·.frame) from by rw[show(V8 qual scope #[0,s₀] f U::outer).filterMap (·.frame)=frs (V8 qual scope #[0,s₀] f U::outer) from rfl,al];exact uj _ Z)
  rw[e] at e';cases e';exact hn
 have ac:∀b o,s₀.heap.get? b=u_ o->b∉frs outer->b∉frs (V8 qual scope #[0,s₀] f U::outer):=λb o e Z hm=>by
  rw[al] at hm;rcases Aa.mp hm with rfl|hm
  ·exact A8 (uK e) (vL _)
  ·exact Z hm
 exists e,C,.ref t,H2,0,I2.os,I2.bare,(by first|exact I2.tk|exact Vf I2.tk (UY _ _)|((try dsimp only);first|assumption|exact Inv.tk (by assumption)|exact Hh _|exact Vf (Inv.tk (by assumption)) (by assumption)|exact Nat.add_pos_left (Inv.tk (by assumption)) _|omega)),⟨?_,?_,O.free,?_,O.tups,O.frzs,O.tbls⟩,?_,af,?_,q2 e
 ·intro b o e1 hn Z hx;exact ae b o (ac b o e1 Z) (O.keep b o e1 hn Z hx)
 ·intro b o e1 hn Z hx;erw[O.slot b o e1 hn Z hx,sl,e2];erw[slots b _ e2 (nd b Z _ e2),ao,e3];exact[ao:e3]
 ·intro b o e1 hx;erw[O.there b o e1 hx,o',e2];by_cases Z:b∈frs outer
  ·erw[slots b _ e2 (nd b Z _ e2),ao,e3];exact[_:e3]
  ·exact[o':ae b o' (ac b o e1 Z) e2]
 ·intro b u Z;refine(I2.hok b u Z).stay (λc v hc q=>?_) (λ_ q=>q) λ_ _ q=>q;rw[TI.gone_get]
  ·exact q
  ·intro hm;have hn:=ah c hm;rcases hc with z|z
   ·rw[z,Z] at hn;cases hn
   ·rw[z] at hn;cases hn
 ·intro b o e1 Z;obtain⟨o',e2⟩:=O.there b o e1 (by simp)
  exact⟨o',by rwa[TI.gone_get (ac b o e1 Z)]⟩
noncomputable abbrev Cx.marked (X:Cx)(ee:o6)(xe:o7->o9->Prop):Cx:={X with A:=X.A.mark (u_ (.ref ee)),calm:=V1,xe:=xe}
section
variable {X:Cx}{ou:oq (o6×Obj)}{σ:St}{H:Hp}{s:o9}{ee:o6}{xe:o7->o9->Prop}
def Cx.Ok.marked (ok:X.Ok):(X.marked ee xe).Ok:=
 ⟨ok.mod,ok.kind,ok.glob,ok.blt,ok.above,ok.inj,ok.has,ok.cab,(λz=>A8 z ub),ok.frames,ok.stk,ok.exf,ok.bs,ok.bsz,ok.noex,ok.exfs,ok.funs,ok.frf⟩
def Inv.marked (I:#[I]):Inv (X.marked ee xe) ou σ H s:=⟨I.ok.marked,I.os,I.bare,I.base,I.loc,I.cell,I.free,I.freeC,I.pin,I.hok,I.len,I.tk⟩
def Inv.unmarked (ok:X.Ok)(I:Inv (X.marked ee xe) ou σ H s):#[I]:=⟨ok,I.os,I.bare,I.base,I.loc,I.cell,I.free,I.freeC,I.pin,I.hok,I.len,I.tk⟩
def SP.unmarked (ok:X.Ok){D:mL}{f:Flow}{s':o9}(h:SP (X.marked ee xe) ou D f s'):SP X ou D f s':=by
 cases f with
 |next=>erw[h,O,H',I,q];exact⟨O,H',I.unmarked ok,q⟩
 |brk=>erw[h,O,H',I,q];exact⟨O,H',I.unmarked ok,q⟩
 |cont=>erw[h,O,H',I,q];exact⟨O,H',I.unmarked ok,q⟩
 |ret u=>erw[h,v,O,H',I,r,q];exact⟨v,O,H',I.unmarked ok,r,q⟩
nonrec def Cat (X:Cx)(ou:oq (o6×Obj))(σ:St)(E:XK)(e:o7)(s':o9):Prop:=∃H1 s1,Inv X ou σ H1 s1/\CX1 X.prog X.w X.stack H1 s1 E e s'
def LD {D:mL}{e:o7}{s':o9}{c:Str}{np al:Pos}{Cc C':o6}{b₀:Stmt}{aa:oq Stmt}{ts:TS}(au:Cat X ou σ (λ_ C H2=>C=u_ Cc/\ts D σ H2) e s')(ac:X.stack=X.env::X.outer/\X.env.frame=u_ X.env.locals)
  (hg:Gl X c) (hm:X.mg c=u_ (.ref C')) (hx:PySem.W.exmOne X.K (.ref Cc) (.ref C')=u_ v_) (hs:∀ee xe,PSs (X.marked ee xe) (b₀::aa) ts) (aw:(c==("__debug__":Str))=V1):
  V2 #[X,X] X.A (noteFrame e X.env) (λ_ s2=>V2 #[X,X] X.A (setFlight e U_) (λ_ s3=>V2 #[X,X] X.A (handleBy e X.env [.ExceptHandler (u_ (.Name c np)) U_ (b₀::aa) al]) (SP X ou D) X.xe s3) X.xe s2) X.xe s':=by
 erw[au,H1,s1,I,ea,C,a0,H',B,rfl,ax,ag,htk,O,am,Z,hold,hC,ay];cases hC;have step:∀hk,B.StaysIn hk->s'.heap.UpToSlots hk->Inv X ou σ H' {s' with heap:=hk}:=by
  intro hk hB hU;have nd:∀b∈frs X.stack,∀o,s'.heap.get? b=u_ o->∀vs,o.data≠ .fields vs:=λb hb o e=>by
   obtain⟨_,o',e',hn⟩:=Z.2.2.1.mem (show b∈X.stack.filterMap (·.frame) from hb)
   rw[e] at e';cases e';exact hn
  have aA:∀b o o',B.get? b=u_ o'->s'.heap.get? b=u_ o->hk.get? b=u_ o:=λb o o' e1 e2=>by
   have:=Z.1 b o' e1;rw[e2] at this;cases this;exact hB b o e1
  refine I.call' (s':={s' with heap:=hk}) (ch:= []) ax ⟨?_,?_,O.free,?_,O.tups,O.frzs,O.tbls⟩ (am.kept λb u e=>hB b u e) ag (λb z=>by simp at z)
  ·intro b o e1 hn hb ad;erw[hold b o e1 hb,o',e2];exact aA b o o' e2 (O.keep b o e1 hn hb ad)
  ·intro b o e1 hn hb ad;erw[O.slot b o e1 hn hb ad,sl,e2];erw[hU b _ e2 (nd b hb _ e2),ao,e3];exact[ao:e3]
  ·intro b o e1 ad;by_cases hb:b∈frs X.stack
   ·erw[O.there b o e1 ad,o',e2];erw[hU b _ e2 (nd b hb _ e2),ao,e3];exact[_:e3]
   ·erw[hold b o e1 hb,o',e2];exact[o':hB b o' e2]
 rw[ac.1] at Z;have aB:X.A.frames=u_ (X.env::X.outer):=by rw[I.ok.frames,ac.1]
 refine wpAny_looks_onW (base:=B) aB ac.2 Z λh1 ah ae=>?_;refine wpAny_landsW ah λh2 U af=>?_;have I2:=step h2 U.1 (ae.trans af);refine wpAny_handleBy_cons (codeAny_handlers_test ?_) (by intro q;cases q)
 refine wy (X:=X.marked ea X.xe) I2.marked hg hm ?_ aw;erw[U.there,oe,he,ap];have LT:PySem.W.Looks #[X,X] h2 (Hu (.ref ea)) (.ref Cc):=ap▸(PySem.W.Looks.ld he).andThen .now;refine PySem.W.exm_one I2.kIn LT hx _ _ _ _ (λb o e=>e) ?_;refine codeAny_handlers_suite (lands_againW U λh3 ak aq=>?_);have I3:=step h3 ak.1 ((ae.trans af).trans aq);exact vt (hs ea _ ou _ σ H' D I3.marked ay) (λf s4 h4=>h4.unmarked I.ok) λ_ _ z=>z
end
def Fun.okX {P:oh}{w:oj}{K:o0}{mg:Str->ot o7}{base:og}{x qual:Str}{st:Stmt}{f:o6}{fd:V4}{N ps:oq Str}{k:Nat}{sp:Sp}(F:Fun K x qual st f fd)(S:qt N ps (qj st))(len:∀vs H Q E,sp vs H Q E->↑vs=↑ps)
  (O:∀(cdv:o7) (A:om) (outer:oq Env) (s:o9) (H:Hp) (vs:oq V) (Q:VK) (E:XK),mw k (A.deeper (V8 qual (qj st) #[0,s] f cdv))->sp vs H Q E->
   ∃t,PSs (cxOf (CX1 P w) P w K mg base N qual (qj st) f cdv A outer s H E) (yZ st) t/\t {nx:=λ_ H'=>Q .non H',rt:=Q} (Kq N vs) H):FnOk P w K mg base (CX1 P w) (k+1) f fd ps sp:=by
 erw[F.ex,oc,od,kV,doc,pm,an,cdv,ct,osl,rfl,lk,U];exact Abk lk U S len λA outer s H vs Q E hr Z=>O cdv A outer s H vs Q E hr Z
end L2
namespace HT
open PySem PyProof.Rows
section
variable {prog:oh}{w:oj}{A:om}{E:o7->o9->Prop}{s:o9}
def getItem_tuple_all {t sl:o6}{items:Array o7}{vl vu:o7}{lo hi:ot Int}{Q:o7->o9->Prop}(O:Gr s.heap t items)(hs:s.heap.IsSliceOf sl vl vu .none)(pl:VH vl lo)(pu:VH vu hi)
  (hw:sIx items.size 0 lo=0/\sIx items.size items.size hi=items.size) (h:Q (.ref t) s):V2 #[w,w] A (VQ (.ref t) (.ref sl)) Q E s:=by
 erw[id hs,os,Z,aa,ad];have ac:s.TypeIs (.ref sl) "slice":=[os:Z:aa];unfold VQ
 try with_reducible refine VJ ?_
 first|refine A7 (uF ?_)|skip
 refine A7 (rp O.typeIs () ?_)
 refine A7 (vk (name:=gY "__getitem__") O.typeIs vJ
  (vF vJ O.typeIs rO ?_ (RM _ _)))
 show V2 _ _ (RF (.ref t)>>=_) _ _ s;refine A7 (Ra O ?_);refine A7 (g_ ac ?_);rw[A6 ()]
 refine A7 (jU hs pl pu ?_);have U:((((sIx items.size 0 lo:Nat):Int)==0&&(1:Int)==1&&(sIx items.size items.size hi-sIx items.size 0 lo)==items.size)=v_):=by
  rw[hw.1,hw.2];simp
 show V2 _ _ (if(((sIx items.size 0 lo:Nat):Int)==0&&(1:Int)==1&&(sIx items.size items.size hi-sIx items.size 0 lo)==items.size)=v_ then _ else _) _ _ s
 rw[A6 U];unfold pC;refine A7 (A7 (g_ O.typeIs (uF ?_)));rw[A6 ()]
 exact A7 (UC (uF [0:uF h]))
end
end HT
namespace L2
open PySem PySem.Spec PyProof.Rows
section
variable {X:Cx}
inductive Adt (K:PySem.W.Frag)(x:V)(lo:Option Int)(hi:Option Int)(H:Hp)(Q:VK):Prop
 |mk (a:_)(xs:_)(_:x= .ref a)(_:SqT K H a xs)(_:(HT.sIx ↑xs 0 lo=0/\HT.sIx ↑xs ↑xs hi=↑xs->Q (.ref a) H))(_:(¬(HT.sIx ↑xs 0 lo=0/\HT.sIx ↑xs ↑xs hi=↑xs)->∀p,H p=U_->Q (.ref p) (upd H p (.tup (sU xs lo hi)))))
def Dx:SlR X (Adt X.K):=by
 exists 2,x,v,vl,vu,lo,hi,sl,Q,I,Z,hs,pl,pu,h;erw[h,a,xs,rfl,hx,q1,q2];by_cases U:HT.sIx ↑xs 0 lo=0/\HT.sIx ↑xs ↑xs hi=↑xs
 ·cases Z;erw[I.tuple hx,its,r,ht,hz];have O:its.toArray.size=↑xs:=by rw[ur];exact r.length.symm
  exists "tuple",_,PyProof.Rows.slot_tuple_getitem.lookup,ht.typeIs;exact HT.getItem_tuple_all ht hs pl pu (by rwa[O]) ⟨.ref a,H,I,1,q1 U⟩
 ·exact S4 ou s σ H (.ref a) v vl vu lo hi sl Q I Z hs pl pu ⟨a,xs,1,hx,U,q2 U⟩
inductive DK (x:V)(vs:List V)(H:Hp)(Q:VK):Prop
 |mk (l:Addr)(xs:List V)(i:Nat)(y:V)(_:x= .ref l)(_:vs= [.int (i:Int),y])(_:H l=u_ (.lst xs))(_:i<=↑xs)(_:↑xs+1<=1000)(_:Q .non (upd H l (.lst (xs.take i++y::xs.drop i))))
def Eo:MtM X "list.insert" DK:=by
 exists 2,x,vs,v,us,Q,I,rx,rv,h;erw[h,l,xs,i,y,rfl,rfl,hH,hi,hz,q];cases rx;erw[IJ rv,u,U,rfl,[t,rfl],ry];erw[I.lstM hH,z,its,n,r,hl,e];obtain⟨x,hx⟩:∃x:Int,x=(i:Int):=⟨0⟩;rw[<-hx];have O:¬(!RV x)=true:=by
  unfold RV;simp;omega
 have Z:its.toArray.size<=sizeLine:=by rw[ur];omega
 have g:= @PySem.AutoSeq1.list_insert_list_int_val_1 l its.toArray n x t U O Z;refine vK F.slot_list_insert [_:e:1] F.entry_list_insert (F.args_list_insert_3 _ _ _) g [e:?_];exists .non,_,I.lset (its':=its.take i++U::its.drop i) hH e ?_ ((r.take i).append (.cons ry (r.drop i))) ?_,1,q
 ·have hk:(if x<0 then(x+((its.toArray.size:Nat):Int)).toNat else min x.toNat its.toArray.size)=i:=by
   rw[A4 (),ur]
   omega
  show(its.toArray.extract 0 (if x<0 then(x+((its.toArray.size:Nat):Int)).toNat else min x.toNat its.toArray.size)).push U++its.toArray.extract (if x<0 then(x+((its.toArray.size:Nat):Int)).toNat else min x.toNat its.toArray.size)=_
  rw[hk];apply Array.toList_inj.mp;simp;exact vf (by rw[vE];exact uA _)
 ·rw[uJ,uB,vy,vE];rw[uE];omega
end
nonrec def Yh (n:Nat):Kd->Str->ot Pt
 | .words,z=>u_ (.s z)
 | .box,z=>if z∈BX then u_ (.s z) else U_
 | .line,z=>((Va n).find? λi:Nat=>decide ((Ve (1+(i:Int)):Str)=z)).map λi:Nat=> .n (1+(i:Int))
nonrec def Yq (n:Nat):oq Kd->oq Str->ot (oq Pt)
 | [],_=>u_ []
 |k::ks,z::zs=>match Yh n k z,Yq n ks zs with
  |some p,u_ ps=>u_ (p::ps)
  |_,_=>U_
 |_::_,[]=>U_
nonrec def JZ (w:Str):ot (oq Kd):=(FRM.find? λx=>decide (x.1=w)).map (·.2)
nonrec def pcs (ks:oq Kd)(z:Str):oq Str:=spl (if Kd.words∈ks then ↑ks else ↑z+1) z
nonrec def wk (n:Nat)(z:Str):ot Rw:=
 if Q3 z=v_ then match JZ (hd z) with
  |none=>U_
  |some ks=>if(pcs ks z).length=1+↑ks then(Yq n ks ((pcs ks z).drop 1)).map λl=>(hd z,l) else U_
 else U_
variable {ks:oq Kd}
def zt {w:Str}(h:JZ w=u_ ks):(w,ks)∈FRM:=by
 unfold JZ at h;cases e:FRM.find? λx=>decide (x.1=w) with
 |none=>rw[e] at h;cases h
 |some x=>
  rw[e] at h;have O:=UN e;have hm:=vN e;cases h;have:x.1=w:=uq O;subst this;exact hm
def wq {w:Str}(h:JZ w=U_):∀x∈FRM,x.1≠w:=by
 unfold JZ at h;rw[tE,Uk] at h;intro x O e;exact h x O (uh e)
variable {n:Nat}{z:Str}
def DS {m:Nat}{k:Kd}{p:Pt}(hz:↑z<=m)(ha:z.cps.toList.all QV=v_)(h:Yh n k z=u_ p):Aaq n m k p/\p.t=z:=by
 cases k with
 |words=>cases h;exact[[hz:ha]:1]
 |box=>
  simp![Yh] at h;by_cases O:z∈BX
  ·rw[A6 O] at h;cases h;exact[O:1]
  ·rw[A4 O] at h;cases h
 |line=>
  simp![Yh] at h;cases e:(Va n).find? λi:Nat=>decide ((Ve (1+(i:Int)):Str)=z) with
  |none=>rw[e] at h;cases h
  |some i=>
   rw[e] at h;cases h;have h1:=UN e;have h2:=List.mem_range.mp (vN e);exact[[():()]:uq h1]
def Wm {n m:Nat}:∀{ks:oq Kd}{zs:oq Str}{ps:oq Pt},(∀z∈zs,↑z<=m/\z.cps.toList.all QV=v_)->↑zs=↑ks->Yq n ks zs=u_ ps->xS n m ks ps/\ps.map Pt.t=zs
 | [],[],ps,_,_,h=>by cases h;exact[trivial:1]
 | [],_::_,_,_,hl,_=>by simp at hl
 |_::_,[],_,_,hl,_=>by simp at hl
 |k::ks,z::zs,ps,hz,hl,h=>by
  unfold Yq at h;split at h
  ·rename_i p qs h1 h2
   cases h;erw[DS (hz z ui).1 (hz z ui).2 h1,O,U];obtain⟨b1,b2⟩:=Wm (λy Z=>hz y (uj _ Z)) (by simpa using hl) h2
   exact⟨[O:b1],by rw[uD,U,b2]⟩
  ·cases h
nonrec def W3:oq (oq Nat)->oq Nat
 | []=> []
 | [x]=>x
 |x::y::r=>x++32::W3 (y::r)
def Cz (x:oq Nat){q:oq (oq Nat)}(O:q≠ []):W3 (x::q)=x++32::W3 q:=by
 cases q with
 |nil=>exact A8 rfl O
 |cons y r=>rfl
def kQ:∀(n:Nat) (L:oq Nat),W3 (jN 32 n L)=L
 |0,L=>by simp[jN,W3]
 |n+1,[]=>by simp[jN,W3]
 |n+1,a::r=>by
  by_cases h:a=32
  ·have O:=kQ n r;erw[JI 32 n r,p,q,e];rw[jN,A6 h,Cz [] (by rw[e];simp),O,h]
   rfl
  ·have O:=kQ (n+1) r;erw[JI 32 (n+1) r,p,q,e];rw[e] at O;simp![jN,A4 h,e];cases q with
   |nil=>simp![W3] at O⊢;rw[O]
   |cons y t=>
    simp![W3] at O⊢;rw[Ux,O]
def BE:∀l:oq (oq Nat),(V9 " " (l.map ofL)).cps.toList=W3 l
 | []=>rfl
 | [x]=>by show(ofL x).cps.toList=x;unfold ofL;simp
 |x::y::r=>by
  have O:=BE (y::r);show(V9 " " (ofL x::ofL y::r.map ofL)).cps.toList=_;rw[XJ];have e:(ofL x).cps.toList=x:=by unfold ofL;simp
  rw[e];show x++32::(V9 " " ((y::r).map ofL)).cps.toList=_;rw[O]
  rfl
def IO (n:Nat)(z:Str):V9 " " (spl n z)=z:=by
 unfold spl;have h:=BE (jN 32 n z.cps.toList);rw[kQ] at h;rw[<-Q1 (V9 " " ((jN 32 n z.cps.toList).map ofL)),h,Q1]
def BR:∀(n:Nat) (L:oq Nat),∃q,jN 32 (n+1) L=JR 32 L::q
 |n,[]=>⟨[],by simp[jN,JR]⟩
 |n,a::r=>by
  by_cases h:a=32
  ·exact⟨jN 32 n r,by simp[jN,JR,h]⟩
  ·erw[BR n r,q,e];exact⟨q,by simp![jN,A4 h,e,JR]⟩
def IN (n:Nat)(z:Str):∃q,spl (n+1) z=hd z::q:=by
 erw[BR n z.cps.toList,q,e];exact⟨q.map ofL,by unfold spl hd;rw[e];rfl⟩
def AH:∀(n:Nat) (L:oq Nat),∀p∈jN 32 n L,↑p<=↑L/\∀c∈p,c∈L
 |0,L=>λp O=>by
  simp[jN] at O;subst O;exact[uA _:λc U=>U]
 |n+1,[]=>λp O=>by
  simp[jN] at O;subst O;exact[uA _:λc U=>U]
 |n+1,a::r=>λp O=>by
  by_cases h:a=32
  ·rw[jN,A6 h] at O;rcases Aa.mp O with rfl|O
   ·exact⟨uY _,λc U=>by simp at U⟩
   ·erw[AH n r p O,h1,h2];exact⟨by simp;omega,λc U=>uj _ (h2 c U)⟩
  ·erw[JI 32 (n+1) r,p0,q,e];have Z:=AH (n+1) r;rw[e] at Z;simp![jN,A4 h,e] at O;rcases Aa.mp O with rfl|O
   ·erw[Z p0 ui,h1,h2];refine⟨by simp;omega,λc U=>?_⟩
    rcases Aa.mp U with rfl|U
    ·exact ui
    ·exact uj _ (h2 c U)
   ·erw[Z p (uj _ O),h1,h2];exact⟨by simp;omega,λc U=>uj _ (h2 c U)⟩
def LX {m:Nat}(hz:↑z<=m)(ha:z.cps.toList.all QV=v_):∀p∈spl n z,↑p<=m/\p.cps.toList.all QV=true:=by
 intro p O;erw[Ae.mp O,q,U,rfl];erw[AH n z.cps.toList q U,h1,h2];have e:(ofL q).cps.toList=q:=by unfold ofL;simp
 exists ?_,?_
 ·have:↑(ofL q)=↑q:=by unfold ofL VS;simp
  rw[this];have:↑z.cps.toList=↑z:=by simp[VS]
  omega
 ·rw[e,U3];intro c Z;exact List.all_eq_true.mp ha c (h2 c Z)
variable {r:Rw}
def Bc (h:wk n z=u_ r):j8 n 300 r/\yM r=z:=by
 unfold wk at h;split at h
 ·rename_i ht
  have O:=ht;unfold Q3 at O;rw[uG,vi] at O;split at h
  ·cases h
  ·rename_i ks hk
   split at h
   ·rename_i hl
    cases e:Yq n ks ((pcs ks z).drop 1) with
    |none=>rw[e] at h;cases h
    |some l=>
     rw[e] at h;cases h;have hm:=zt hk;have U:∀p∈(pcs ks z).drop 1,↑p<=300/\p.cps.toList.all QV=true:=λp Z=>LX O.1 O.2 p (rV Z);obtain⟨a1,a2⟩:=Wm U (by rw[vE,hl];omega) e
     exists [ks:hm:a1];have aa:∃j,(if Kd.words∈ks then ↑ks else ↑z+1)=j+1:=by
      split
      ·rename_i hw
       exact⟨↑ks-1,by have:=List.length_pos_iff.mpr (λe=>by rw[e] at hw;simp at hw:ks≠ []);omega⟩
      ·exact[↑z:1]
     erw[aa,j,hj];erw[IN j z,q,hq];have Z:pcs ks z=hd z::q:=by unfold pcs;rwa[hj]
     have hb:V9 " " (pcs ks z)=z:=IO _ z;show V9 " " (hd z::l.map Pt.t)=z;rw[a2];rw[Z] at hb⊢;exact hb
   ·cases h
 ·cases h
end L2
namespace PySem.AwV
open PySem PySem.Calls PyProof.Rows Builtin Builtin.ObjectAttr Builtin.Getset_descriptor PySem.W
structure ExcCls (K:Frag)(C:o6):Prop where
 ga:findIn K (.ref C) "__getattribute__"=u_ (u_ (.builtin "BaseException.__getattribute__"))
 gt:findIn K (.ref C) "__getattr__"=u_ U_
 cl:findIn K (.ref C) "__class__"=u_ (u_ (.builtin "object.__class__"))
 sp:specialIn K (.builtin "object.__class__") "__get__"=u_ (u_ (.builtin "getset_descriptor.__get__"))
 tk:takesIn K (.builtin "object.__class__")=u_ v_
 ob:mroIn K C (.type "object")=u_ v_
 be:mroIn K C (.type "BaseException")=u_ v_
end PySem.AwV
namespace L2
open PySem PySem.Spec PyProof.Rows
section
variable {X:Cx}{ou:oq (o6×Obj)}{σ:St}{H:Hp}{s:o9}
def nA:∀{cs:oq o6}{its:oq o7},iq (cs.map V.ref) its->its=cs.map V7
 | [],_,h=>by cases h;rfl
 |c::cs,_,h=>by
  cases h with
  |cons O U=>
   rw[nA U,show _=V7 c from O]
   rfl
end
section
variable {X:Cx}
def zL:∀{ls:oq Str}{its:oq o7},iq (ls.map V.str) its->tM its ls
 | [],_,h=>by cases h;exact .nil
 |z::ls,_,h=>by
  cases h with
  |cons O U=>
   erw[O,t,e];rw[e];exact .cons z t (zL U)
def Zi:∀{ls:oq Str}{its:oq o7},tM its ls->iq (ls.map V.str) its
 |_,_,.nil=> .nil
 |_,_,.cons x t h=> .cons [t:1] (Zi h)
def AR:∀{xs:oq V}{us:oq o7},↑xs=↑us->(∀(j:Nat) (x:V) (v:o7),xs[j]? =u_ x->us[j]? =u_ v->ik x v)->iq xs us
 | [],[],_,_=> .nil
 |x::xs,u::us,hl,h=> .cons (h 0 x u rfl rfl) (AR (by simpa using hl) λj y v h1 h2=>h (j+1) y v (by simpa using h1) (by simpa using h2))
 | [],_::_,hl,_=>by simp at hl
 |_::_,[],hl,_=>by simp at hl
def sx (hc:X.calm=v_):jg X (.builtin "sorted") (λxs H Q=>∃(d:o6) (kvs:oq (Key×V)) (ls:oq Str),xs= [.ref d]/\H d=u_ (.dK kvs)/\kvs.map (·.1)=ls.map V3/\↑ls<64/\∀(Z:oq Str) (q:o6),Z.Perm ls->sortedS Z=v_->H q=U_->Q (.ref q) (upd H q (.lst (Z.map V.str)))):=by
 exists 2,xs,us,Q,I,r,h;erw[h,d,kvs,ls,rfl,hd,hk,am,q];erw[jZ r,u,rfl,ru];cases ru;erw[CH I.hok hd,hz,lo,vs,ae,dd];erw[id dd,o,es,ep,ho];have af:s.heap.DictAt (Ql X.prog X.w) d vs ep:=[o:es:ho];have aa:↑vs=↑ls:=by
  have h1:=A9 Vv hk;rw[u9,u9] at h1;rw[<-↑ae,h1]
 refine vm (n:=1) I.tk ?_;refine PySem.Calls.call_function_entry kind_sorted plain_sorted entry_sorted (args_sorted1 _) ?_;unfold VI.«sorted»;refine A7 (m:=checkCount "sorted" 1 1 _) (uF ?_);refine A7 (PySem.W.kdu_collect (A:=X.A.in1) (PySem.W.kdl_dict lo) (I.ok.hd hc) af (by rw[aa,uE];omega) λh' tk U ag O=>?_)
 have hS:tM U.toList ls:=by
  refine zL (AR (by rw[u9,vq];exact aa.symm.trans O.1.symm) λj x v hx hv=>?_)
  rw[uC] at hx;cases ac:ls[j]? with
  |none=>rw[ac] at hx;cases hx
  |some z=>
   rw[ac] at hx;cases hx;obtain⟨k,y,e1,e2⟩:=O.2 j v (by rwa[<-HR])
   have e3:(kvs.map (·.1))[j]? =u_ k:=by
    rw[ae.keys,uC,e1]
    rfl
   rw[hk,uC,ac] at e3;cases e3;rcases Qu (show oW (V3 z) v=v_ from e2) with⟨i,t,e4,e5⟩|⟨z',t,e4,e5⟩
   ·cases e4
   ·cases e4;exact[t:e5]
 have ah:↑U.toList=↑ls:=by rw[vq,O.1,aa]
 refine A7 (TD ?_ (by rw[ah,uE];omega))
 have ad:(h'.push (seqObj "list" U.toList.toArray 0)).get? h'.objs.size=u_ (seqObj "list" U.toList.toArray 0):=uL _ rfl;refine A7 (VJ (vF slot_list_sort [_:ad:1] entry_list_sort (list_sort_treeK strKind_oneLt ad hS.keysOf (λv₁ v₂ rest e=>keyKind_strs (by rwa[<-e])) () λak a1 a2=>[0:?_]) (args_list_sort _)))
 refine uF [0:?_];erw[sorted_out_str hS a1 a2,Z,b1,b2,b3];erw[sortedHeap_at (out:=(arrOf ak).map (·.2)) ad,e,he];have al:↑Z=↑ls:=b2.length_eq;intro htk;have I':Inv X ou σ H {s with heap:=h',toks:=tk}:=I.kept ag
 exists .ref h'.objs.size,_,I'.laid (t':=tk) (o:= .lst (Z.map V.str)) (λb u w=>?_) (uA _) ⟨?_,_,e,Zi b1,he⟩,1,q Z _ b2 b3 (I'.hok.fresh (uA _))
 ·have hb:=uK w;rw[sortedHeap_old (v7 hb) (by rw[size_push'];exact Nat.lt_succ_of_lt hb)]
  exact ud _ w
 ·rw[u9,al,uE];omega
nonrec def Itd (d:o6)(o:Obj):It:=
 ⟨λi H=>∃kvs,H d=u_ (.frz o (.dK kvs))/\i<↑kvs,λi H x H'=>H'=H/\∀kvs,H d=u_ (.frz o (.dK kvs))->(kvs.map λp=>kV p.1)[i]? =u_ x,λi H=>∃kvs,H d=u_ (.frz o (.dK kvs))/\↑kvs<=i⟩
variable {w:oj}
def DT {P:oh}{es:oq Gg}{kvs:oq (Key×o7)}(h:Pairs (Ql P w) es kvs):↑es=↑kvs:=↑h
variable {H:Hp}{h:og}
def ES {P:oh}{d:o6}{o:Obj}{kvs:oq (Key×V)}{es:Array Gg}{ep:Nat}(ok:HOk P w H h)(e:H d=u_ (.frz o (.dK kvs)))(hd:o.data= .dict es ep):
  (d==Vn)=V1/\∃vs,KV kvs vs/\h.DictAt (Ql P w) d vs ep/\↑vs=es.size/\↑kvs<=sizeLine:=by
 obtain⟨U,hz,lo,vs,r,o',aa,ac,O,c1,Z,c3,c4,c5⟩:=(show Q6 P w H h d (.frz o (.dK kvs)) from ok d _ e)
 rw[U] at O;cases O;rw[hd] at Z;cases Z;exact⟨lo,vs,r,⟨o,es,U,c1,hd,c3,c4,c5⟩,by rw[<-vq];exact(DT c4).symm,hz⟩
def Aa9 {k:Key}{v:o7}(h:oW k v=v_):ik (kV k) v:=by
 rcases Qu h with⟨i,t,rfl,rfl⟩|⟨z,t,rfl,rfl⟩
 ·exact[t:1]
 ·exact[t:1]
variable {K:o0}{tg:Expr}
def C5 {P:oh}(d it:o6){o:Obj}{es:Array Gg}{ep:Nat}(hd:o.data= .dict es ep):MO P w K tg (Itd d o) [it] it (λi h=>h.IsKeyIter it d i es.size ep) where
 mem:=by simp
 obj:=λi h st b O=>by
  have e:b=it:=by simpa using O
  subst e;erw[st,o,e,c,d];exact⟨o,e,λv z=>by rw[d] at z;cases z⟩
 keep:=λi h h' st k=>by
  erw[st,o,e,c,dd];exact⟨o,k it (by simp) o e,c,dd⟩
 item:=by
  intro X hP hw hK hc i ou s σ H E I hf st hg;subst hP hw hK;erw[hg,kvs,hq,hx];erw[ES I.hok hq hd,lo,vs,r,dat,hl,_];have ac:=↑r;obtain⟨f0,f1,f2,f3,f4,f5⟩:=hf it (by simp)
  obtain⟨⟨k,v⟩,U⟩:∃p,vs[i]? =u_ p:=[_:uc ()]
  refine wpAny_pyNext_dict_item (by rwa[hl]) dat U λad h' hk Z sb=>?_
  have I1:Inv X ou σ H {s with heap:=h'}:=I.turned (t':=s.toks) (λb o O e=>(sb.2 b O).trans e) f0 f1 f3 f4 f5
  erw[id Z,oi,e,c,di];refine⟨ad,1,EM (s:={s with heap:=h'}) e c di () ⟨kV k,H,I1,Aa9 hk,[1:λae aa=>?_],by rw[<-hl];exact Z,λb O=>(hf b O).1⟩⟩
  rw[hq] at aa;cases aa;have e3:(kvs.map (·.1))[i]? =u_ k:=by
   rw[r.keys,uC,U]
   rfl
  rw[uC] at e3⊢;cases h4:kvs[i]? with
  |none=>rw[h4] at e3;cases e3
  |some p=>
   rw[h4] at e3;cases e3
   rfl
 done:=by
  intro X hP hw hK hc i ou s σ H E I hf st hg;subst hP hw hK;erw[hg,kvs,hq,hx];erw[ES I.hok hq hd,lo,vs,r,dat,hl,_];have ac:=↑r;obtain⟨f0,f1,f2,f3,f4,f5⟩:=hf it (by simp)
  exact wpAny_pyNext_dict_end (I.ok.hd hc) (by rwa[hl]) dat (List.getElem?_eq_none ()) λh' eb=>[1:I.turned (t':=s.toks) (λb o O e=>eb b o O e) f0 f1 f3 f4 f5]
 self:=λ_ _ _ _ _ st h=>wpAny_pyIter_keyiter st h
nonrec def AcU (tl:TE):TI:=λσ H R=>tl σ H λx H1=>∃d o kvs,x= .ref d/\H1 d=u_ (.frz o (.dK kvs))/\R (Itd d o) H1
def w8 {tg l:Expr}{tl:TE}(Z:PE X l tl):PI X tg l (AcU tl):=by
 exists 2,R,I,h;refine thn (Z ou s σ H _ I h) λv s1 zq=>?_;erw[zq,x,H1,O,r1,q1];erw[q1,d,o,kvs,rfl,hq,q];cases r1;obtain⟨ho,_,lo,vs,r,o',es,ep,U,c1,c2,_⟩:=(show Q6 X.prog X.w H1 s1.heap d (.frz o (.dK kvs)) from O.hok d _ hq)
 rw[ho] at U;cases U;erw[ES O.hok hq c2,lo,vs,r,dat,Z,_];refine wpAny_pyIter_dict lo dat ?_;refine⟨#[0,s1],[#[0,s1]],_,_,H1,1,O.kept (t':=s1.toks) λb o e=>ud _ e,C5 d _ c2,⟨_,uL _ rfl,1,by rw[Z];rfl⟩,λb hb=>?_,q⟩
 have e:b=#[0,s1]:=by simpa using hb
 subst e;exact O.fpOk (uA _) (O.hok.fresh (uA _))
end
end L2
namespace PySem.AwK
open PySem Builtin Builtin.ObjectAttr
def OX:Hl (.type "list") "keys"=pure none:=by rw[rF,T_];kernel_rfl
section
variable {prog:oh}{w:oj}{A:om}{E:o7->o9->Prop}{s:o9}
def kO:isSubtype (.type "AttributeError") (.type "AttributeError")=pure true:=by rw[isSubtype_type];kernel_rfl
def Co {α:Type}{o:o7}{name O:Str}{Q:α->o9->Prop}(hh:A.handled=U_)(hm:↑O<=V5)
  (hq:∀h' aa e,(∀b ob,s.heap.get? b=u_ ob->h'.get? b=u_ ob)->(∃oe,h'.get? e=u_ oe/\oe.cls= .type "AttributeError")->E (.ref e) {s with heap:=h',toks:=aa}):
  V2 #[w,w] A (Rz o name O:Sem α) Q E s:=by
 unfold Rz;refine A7 (wpAny_mkStr (A7 ?_) hm);unfold newExc tK;refine A7 (vz ?_ (by show(1:Nat)<=V5;rw[uE];decide))
 refine A7 (m:=Ta _ _) (tH (a:=VL) (by kernel_rfl) ?_)
 obtain⟨h1,Z⟩:∃h1,h1=s.heap.push {cls:= .type "tuple",data:= .seq #[Vt O s.toks]}:=⟨0⟩;have k1:∀b ob,s.heap.get? b=u_ ob->h1.get? b=u_ ob:=λb ob e=>by rw[Z];exact ud _ e
 show V2 #[w,w] A (newObj (.type "AttributeError") (.fields #[.ref #[0,s],.none,.none,.none,.bool V1,.none,VM,VM])) _ E {s with heap:=s.heap.push {cls:= .type "tuple",data:= .seq #[Vt O s.toks]},toks:=s.toks+1}
 rw[<-Z];refine vz ?_ (by unfold sizeOk;first|trivial|(rw[uE];simp)|decide)
 obtain⟨h2,U⟩:∃h2,h2=h1.push {cls:= .type "AttributeError",data:= .fields #[.ref #[0,s],.none,.none,.none,.bool V1,.none,VM,VM]}:=⟨0⟩;have k2:∀b ob,h1.get? b=u_ ob->h2.get? b=u_ ob:=λb ob e=>by rw[U];exact ud _ e
 have e2:h2.get? h1.objs.size=u_ {cls:= .type "AttributeError",data:= .fields #[.ref #[0,s],.none,.none,.none,.bool V1,.none,VM,VM]}:=by rw[U];exact uL _ rfl
 show V2 #[w,w] A (do let x<-mkText name;noteAttr (.ref h1.objs.size) o x;raiseNew (.ref h1.objs.size)) Q E {s with heap:=h1.push {cls:= .type "AttributeError",data:= .fields #[.ref #[0,s],.none,.none,.none,.bool V1,.none,VM,VM]},toks:=s.toks+1}
 rw[<-U];have ne:∀b ob,h1.get? b=u_ ob->b≠h1.objs.size:=λb ob e=>v7 (uK e);generalize h1.objs.size=e at e2 ne⊢;refine A7 (Fb (A7 ?_));have hT:∀g d t os,(⟨h2,g,d,t,os⟩:o9).TypeIs (.ref e) "AttributeError":=λ_ _ _ _=>[_:e2:1];unfold noteAttr lacksNameAndObj;refine A7 (A7 (Uy (hT _ _ _ _) kO ?_));simp![Bool.not_true,UH,if_false];refine A7 (Ho e2 ?_);dsimp only;rw[A4 (by simp[VM,Vw]),A4 (by simp[VM,doubtfulMember,Vw])]
 refine uF ?_;rw[A6 rfl];refine A7 (UC (A7 (g_ (hT _ _ _ _) ?_)));show V2 #[w,w] A (layMembers e 6 #[Vt name (s.toks+1),o]) _ E _;unfold layMembers;refine A7 (Ho e2 ?_);dsimp only;refine wpAny_update e2 ?_;have e3:=Te (Fk λvs=>vs.extract 0 6++ #[Vt name (s.toks+1),o]) e2 rfl;have k3:∀b ob,b≠e->h2.get? b=u_ ob->(h2.update e (Fk λvs=>vs.extract 0 6++ #[Vt name (s.toks+1),o])).get? b=u_ ob:=λb ob hb q=>(tG _ _ (vX hb)).trans q;exact wpAny_raiseNew_none hh (hq _ _ e (λb ob q=>k3 b ob (ne b ob (k1 b ob q)) (k2 b ob (k1 b ob q))) [_:e3:1])
end
section
variable {prog:oh}{w:oj}{A:om}{E:o7->o9->Prop}{h:og}{g:Array tX}{d:Drawn}{t:Nat}{os:OsState}{a:o6}{its:Array o7}{n:Nat}{sl:Array (ot o7)}
def Ld {tk:Tok}{Q:Fin->o9->Prop}(Z:A.handled=U_)(hx:h.get? a=u_ {cls:= .type "list",dict:=U_,data:= .seq its n,slots:=sl})
  (hq:∀h' O e,(∀b ob,h.get? b=u_ ob->h'.get? b=u_ ob)->(∃U,h'.get? e=u_ U/\U.cls= .type "AttributeError")->E (.ref e) ⟨h',g,d,O,os⟩):
  V2 #[w,w] A (VI.«object.__getattribute__» [[.ref a,.str "keys" tk]:[]]) Q E ⟨h,g,d,t,os⟩:=by
 have hT:(⟨h,g,d,t,os⟩:o9).TypeIs (.ref a) "list":=[_:hx:1];have f4:=OX
 repeat (any_goals (first|assumption|wp_step))
 exact Co Z (by rw[uE];decide+kernel) hq
def OU {tk:Tok}{R:Ge->o9->Prop}(hh:A.handled=U_)(U:h.get? a=u_ {cls:= .type "list",dict:=U_,data:= .seq its n,slots:=sl})
  (hq:∀h' O e,(∀b ob,h.get? b=u_ ob->h'.get? b=u_ ob)->(∃Z,h'.get? e=u_ Z/\Z.cls= .type "AttributeError")->R (.error (.ref e)) ⟨h',g,d,O,os⟩):
  VD #[w,w] A (.call (.builtin "list.__getattribute__") [[.ref a,.str "keys" tk]:[]]) R ⟨h,g,d,t,os⟩:=
 Tc F.slot_list_getattribute.plain F.entry_list_ga (F.slot_list_getattribute.check _ _ _ _ _ _ _ _ (show(⟨h,g,d,t,os⟩:o9).TypeIs (.ref a) "list" from[_:U:1]) (F.args_list_getattribute_2 _ _) (Ld hh U hq))
def OT {Q:ot o7->o9->Prop}(hh:A.handled=U_)(U:h.get? a=u_ {cls:= .type "list",dict:=U_,data:= .seq its n,slots:=sl})
  (hq:∀h' O,(∀b ob,h.get? b=u_ ob->h'.get? b=u_ ob)->Q U_ ⟨h',g,d,O,os⟩):V2 #[w,w] A (getAttr? (.ref a) "keys") Q E ⟨h,g,d,t,os⟩:=by
 have hT:∀t,(⟨h,g,d,t,os⟩:o9).TypeIs (.ref a) "list":=λt=>[_:U:1];unfold getAttr? getAttrBy?;refine A7 (Fb (A7 (UL ?_)));unfold getAttrBy;refine VJ (A7 (g_ (hT _) ?_));rw[F.slot_list_getattribute.lookup];refine A7 (uF ?_);show V2 #[w,w] A (FT (.ref a) _ (.type "list") (.builtin "list.__getattribute__") V1 V1) _ _ _;unfold FT;refine A7 (m:=hookBefore _) (uF ?_);refine A7 (UL (VJ ?_));show V2 #[w,w] A (Fz (.builtin "list.__getattribute__") (.ref a) _) _ _ _;unfold Fz;rw[F.slot_list_getattribute.bind];refine A7 (uF (GQ (OU hh U λh' O e k zq=>?_)));erw[zq,oe,e1,e2];have Z:∀t,(⟨h',g,d,t,os⟩:o9).TypeIs (.ref e) "AttributeError":=λt=>[_:e1:e2];show V2 #[w,w] A (Fu (.ref a) _ (.type "list") (.ref e) U_ V1 V1) _ _ ⟨h',g,d,O,os⟩;unfold Fu;refine A7 (Uy (Z _) kO ?_);rw[A6 rfl];have lg:hookBehind (.type "list") U_=pure none:=by
  show Hl (.type "list") "__getattr__"=pure U_;rw[rF,T_]
  kernel_rfl
 rw[lg];refine A7 (uF ?_);show V2 #[w,w] A (rn (.ref a) _ (.ref e) V1 V1) _ _ _;unfold rn;refine rG ?_;refine A7 (Uy (Z _) kO ?_);rw[A6 rfl];exact uF (hq h' O k)
end
def WW:entryFor table "dict.update.loop"=u_ VI.«dict.update.loop»:=entryFor_of_fast (by kernel_rfl)
def JL:plainId "dict.update.loop"=true:=by decide+kernel
section
variable {prog:oh}{w:oj}{A:om}{E:o7->o9->Prop}{K:Type}[DecidableEq K]{knd:KeyKind prog w K}
nonrec def addAll (cur:oq (K×o7)):oq (K×o7)->oq (K×o7)
 | []=>cur
 |p::r=>addAll (gR cur p.1 p.2) r
structure AbI (h:og)(d it:o6)(v:o7)(p:K×o7):Prop where
 at_:∃(t:o6) (o:Obj) (k:o7) (n:Nat),v= .ref t/\t≠d/\t≠it/\h.get? t=u_ o/\o.cls= .type "tuple"/\o.data= .seq #[k,p.2] n/\knd.is p.1 k=v_
variable {l:o6}
def Cq (hh:A.handled=U_){d it:o6}{items:Array o7}{ps:oq (K×o7)}{R:Ge->o9->Prop}(aq:d≠l)(au:it≠l)(aa:d≠it)(hn:items.size=↑ps)(hz:2*↑ps<=V5)(res:o7):
  ∀(m i:Nat) (s:o9) (O:oq (K×o7)),i+m=↑ps->s.heap.IsListIter it l i->s.heap.IsList l items->s.heap.DictOf knd d O->↑O<=i->
  (∀(j:Nat) (v:o7) (p:K×o7),items[j]? =u_ v->ps[j]? =u_ p->AbI (knd:=knd) s.heap d it v p)->
  (∀h' ac,h'.DictOf knd d (addAll O (ps.drop i))->(∀b o,b≠d->b≠it->s.heap.get? b=u_ o->h'.get? b=u_ o)->R (.ok (.ret res)) {s with heap:=h',toks:=ac})->
  VD #[w,w] A (.builtin "dict.update.loop" [[.ref d,.ref it,Vw i,res]:[]]) R s:=by
 intro m
 induction m with
 |zero=>
  intro i s O hm ad hl hd hc hp hR;refine T9 WW ?_;rw[r_ JL _];show V2 _ A.in1 (Vu (.ref it)>>=_) _ _ s;refine A7 (rP (A:=A.in1) hh ad hl (by rw[Array.getElem?_eq_none ()]) λh' eb=>?_)
  have ae:h'.DictOf knd d O:=by
   erw[hd,o,es,ep,ho,r];exact⟨o,es,ep,eb d o aa ho,r⟩
  have:=hR h' s.toks (by rwa[List.drop_eq_nil_of_le ()]) λb o Z U e=>eb b o U e
  show V2 #[w,w] A.in1 (Dict.addKeywords d []>>=λ_=>ret res) _ _ _;refine A7 (m:=Dict.addKeywords d []) (uF ?_);exact uF this
 |succ m ih=>
  intro i s O hm ad hl hd hc hp hR;refine T9 WW ?_;rw[r_ JL _];have hi:i<items.size:=by omega
  have ag:i<↑ps:=by omega
  have hx:items[i]? =u_ items[i]:=Array.getElem?_eq_getElem hi;have aw:ps[i]? =u_ ps[i]:=uc ag;erw[(hp i _ _ hx aw).at_,t,o,k,n,ev,aD,ax,ho,ay,aA,hk];rw[ev] at hx;show V2 _ A.in1 (Vu (.ref it)>>=_) _ _ s;refine A7 (FQ (A:=A.in1) ad hl hx λh1 ah af=>?_);have ak:h1.get? t=u_ o:=(af.2 t ax).trans ho;have hT:(({s with heap:=h1}:o9)).TypeIs (.ref t) "tuple":=[_:ak:ay]
  have al:h1.DictOf knd d O:=hd.sameBut af aa;dsimp only;refine A7 (VJ (A7 (wpAny_tryCatch ?_)));unfold Dict.pairItems;refine A7 (g_ hT ?_);rw[A6 ()]
  refine A7 ?_;unfold tP;refine A7 (Ho ak ?_);rw[aA];refine uF (uF ?_);show V2 #[w,w] A.in1 (VR [k,ps[i].2] (dictSet d k ps[i].2)) _ _ _;refine VJ (wpAny_dictSet_pairs hk al (λh2 aB am=>?_) ())
  have ao:h2.IsListIter it l (i+1):=by
   erw[ah,oi,e,c];exact[oi:(am.2 it (vX aa)).trans e:c]
  have keep:∀b ob,b≠d->b≠it->s.heap.get? b=u_ ob->h2.get? b=u_ ob:=λb ob Z U e=>(am.2 b Z).trans ((af.2 b U).trans e);have aC:h2.IsList l items:=by
   erw[hl,ol,e,c];exact[ol:keep l ol (vX aq) (vX au) e:c]
  refine uF [Rl JL _:?_];have ap:↑(gR O ps[i].1 ps[i].2)<=i+1:=by
   unfold gR;split
   ·rw[u9];omega
   ·rw[uJ];show ↑O+1<=i+1;omega
  refine ih (i+1) _ _ () ao aC aB ap (λj v p h1 h2=>?_) λh' ac ae kp=>?_
  ·erw[(hp j v p h1 h2).at_,t',o',k',n',e1,e2,e3,e4,e5];exact⟨⟨t',o',k',n',e1,e2,e3,keep t' o' e2 e3 e4,e5⟩⟩
  ·refine hR h' ac ?_ λb ob Z U e=>kp b ob Z U (keep b ob Z U e);rw[uU ag];exact ae
def dict_pairs (hh:A.handled=U_){s:o9}{l:o6}{items:Array o7}{n:Nat}{sl:Array (ot o7)}{ps:oq (K×o7)}{Q:o7->o9->Prop}(hl:s.heap.get? l=u_ {cls:= .type "list",dict:=U_,data:= .seq items n,slots:=sl})(hn:items.size=↑ps)(hz:2*↑ps<=V5)
  (hp:∀(j:Nat) (v:o7) (p:K×o7),items[j]? =u_ v->ps[j]? =u_ p->∃(t:o6) (o:Obj) (k:o7) (n:Nat),v= .ref t/\s.heap.get? t=u_ o/\o.cls= .type "tuple"/\o.data= .seq #[k,p.2] n/\knd.is p.1 k=v_)
  (hQ:∀h' aa,h'.DictOf knd #[0,s] (addAll [] ps)->(∀b o,s.heap.get? b=u_ o->h'.get? b=u_ o)->Q (.ref #[0,s]) {s with heap:=h',toks:=aa}):
  V2 #[w,w] A (call (.type "dict") [.ref l]) Q E s:=by
 refine callType_codes (Q₁:=λobj s₁=>obj= .ref #[0,s]/\s₁={s with heap:=s.heap.push {cls:= .type "dict",data:= .dict #[]}}) F.kt_called_dict (F.kt_typeCall_dict_1 _) F.entry_dict_init (kt_code_dict_new _ [1:1]) ?_
 rintro obj s₁ ⟨rfl,rfl⟩;have U:(s.heap.push {cls:= .type "dict",data:= .dict #[]}).DictOf knd #[0,s] []:=Fv s.heap;exists U.typeIs,F.args_dict_init_2 _ _;unfold VI.«dict.__init__»;refine A7 ?_;unfold pE;refine A7 (wpAny_notOrdered_dict U.typeIs ?_);refine(show V2 _ _ (pure (#[0,s],[V7 l])) _ _ _ from ?_)
 refine uF ?_;refine(show V2 _ _ (re "dict.__init__" #[0,s] (.ref l) [] .none) _ _ _ from ?_)
 unfold re;have Z:(s.heap.push {cls:= .type "dict",data:= .dict #[]}).get? l=u_ {cls:= .type "list",dict:=U_,data:= .seq items n,slots:=sl}:=ud _ hl;refine A7 (g_ (T:="list") [_:Z:1] ?_);rw[A6 ()]
 refine A7 (OT (A:=A.in1.in1) hh Z λh2 al k2=>?_);rw[A6 (show(U_:ot o7).isNone=v_ from rfl)]
 have ac:l<#[0,s]:=uK hl;have ae:h2.IsList l items:=⟨_,k2 _ _ Z,1,n,1⟩;refine A7 (UC (A7 (UR ae ?_)));have ad:h2.DictOf knd #[0,s] []:=by
  erw[U,o,es,ep,ho,r];exact⟨o,es,ep,k2 _ _ ho,r⟩
 have O:#[0,s]<h2.objs.size:=by
  erw[ad,o,es,ep,ho,r];exact uK ho
 have k1:∀b o,s.heap.get? b=u_ o->h2.get? b=u_ o:=λb o e=>k2 b o (ud _ e);have k3:∀b o,h2.get? b=u_ o->(h2.push {cls:= .type "list_iterator",data:= .fields #[.ref l,.int 0 0]}).get? b=u_ o:=λb o e=>ud _ e;have af:(h2.push {cls:= .type "list_iterator",data:= .fields #[.ref l,.int 0 0]}).IsList l items:=⟨_,k3 _ _ (k2 _ _ Z),1,n,1⟩;have ag:(h2.push {cls:= .type "list_iterator",data:= .fields #[.ref l,.int 0 0]}).DictOf knd #[0,s] []:=ad.push _;refine uF [Rl JL _:Cq (A:=A.in1) hh (d:=#[0,s]) (it:=h2.objs.size) (l:=l) (items:=items) (ps:=ps) (U4 ac) (U4 (GZ ac O)) (v7 O) hn hz .none ↑ps 0 _ [] () ⟨_,uL _ rfl,1,1⟩ af ag (uA _) (λj v p h1 ah=>?_) λh' aa ak kp=>?_]
 ·erw[hp j v p h1 ah,t,o,k,n',e1,e2,e3,e4,e5];have ht:=uK e2;exact⟨⟨t,o,k,n',e1,v7 ht,v7 (GZ ht O),k3 _ _ (k1 _ _ e2),e3,e4,e5⟩⟩
 ·exists 1,hQ h' aa ak λb o e=>?_;have hb:=uK e;exact kp b o (v7 hb) (v7 (GZ hb O)) (k3 _ _ (k1 _ _ e))
end
end PySem.AwK
namespace L2
open PySem PySem.Spec PyProof.Rows
section
variable {X:Cx}
nonrec def lh (ps:oq (Str×V)):oq (Key×V):=ps.map λp=>(V3 p.1,p.2)
def ZH (ps:oq (Str×V)):(lh ps).map (·.1)=(ps.map (·.1)).map Sum.inr:=by
 unfold lh;rw[uO,uO]
 rfl
def Ce {kvs:oq (Key×o7)}{k:Key}{v:o7}(h:k∉kvs.map (·.1)):gR kvs k v=kvs++ [(k,v)]:=by
 unfold gR;rw[A4];intro q;erw[List.any_eq_true.mp q,p,O,e];exact h (Ae.mpr [p:O:uq e])
def WY:∀{ps O:oq (Key×o7)},((O++ps).map (·.1)).Nodup->AwK.addAll O ps=O++ps
 | [],O,_=>(uX O).symm
 |p::r,O,h=>by
  unfold AwK.addAll;have U:p.1∉O.map (·.1):=by
   rw[um,uD] at h;intro q;exact(List.nodup_append.mp h).2.2 _ q _ ui rfl
  rw[Ce U,WY (by rw[vB];exact h),vB]
  rfl
def oy {P:oh}{w:oj}{H:Hp}{h:og}(ok:HOk P w H h):∀{ts:oq o6}{ps:oq (Str×V)},↑ts=↑ps->(∀(i:Nat) (t:o6) (p:Str×V),ts[i]? =u_ t->ps[i]? =u_ p->H t=u_ (.tup [.str p.1,p.2]))->
  ∃pv:oq (Key×o7),KV (lh ps) pv/\∀(j:Nat) (v:o7) (p:Key×o7),(ts.map V7)[j]? =u_ v->pv[j]? =u_ p->∃(t:o6) (o:Obj) (k:o7) (n:Nat),v= .ref t/\h.get? t=u_ o/\o.cls= .type "tuple"/\o.data= .seq #[k,p.2] n/\(Ql P w).is p.1 k=v_
 | [],[],_,_=>⟨[],.nil,λj v p e=>by simp at e⟩
 |t::ts,p::ps,hl,hp=>by
  obtain⟨pv,h1,h2⟩:=oy ok (ts:=ts) (ps:=ps) (by simpa using hl) λi t' p' O e2=>hp (i+1) t' p' (by simpa using O) (by simpa using e2)
  obtain⟨_,its,rv,o,U,Z,n,hd⟩:=(show Q6 P w H h t (.tup [.str p.1,p.2]) from ok t _ (hp 0 t p rfl rfl))
  cases rv with
  |cons r1 rv=>
  cases rv with
  |cons r2 rv=>
  cases rv with
  |nil=>
  erw[r1,tk,rfl]
  rename_i u
  exists (V3 p.1,u)::pv,.cons [1:r2] h1,λj v q O e2=>?_;cases j with
  |zero=>
   simp![uD,List.getElem?_cons_zero,p9] at O e2;subst O e2;exact⟨t,o,_,n,1,U,Z,hd,wP _ _ _ _⟩
  |succ j=>exact h2 j v q (by simpa using O) (by simpa using e2)
 | [],_::_,hl,_=>by simp at hl
 |_::_,[],hl,_=>by simp at hl
nonrec def BZ (H:Hp)(l:o6)(ps:oq (Str×V)):Prop:=∃ts:oq o6,H l=u_ (.lst (ts.map V.ref))/\↑ts=↑ps/\∀(i:Nat) (t:o6) (p:Str×V),ts[i]? =u_ t->ps[i]? =u_ p->H t=u_ (.tup [.str p.1,p.2])
def Id {ou:oq (o6×Obj)}{σ:St}{H:Hp}{s:o9}{l:o6}{ps:oq (Str×V)}{Q:o7->o9->Prop}(hc:X.calm=v_)(I:#[I])(hl:BZ H l ps)(hn:(ps.map (·.1)).Nodup)(hz:↑ps<=1000)
  (h:∀h' O pv,0<O->(∀b o,s.heap.get? b=u_ o->h'.get? b=u_ o)->KV (lh ps) pv->h'.DictOf (Ql X.prog X.w) #[0,s] pv->Q (.ref #[0,s]) {s with heap:=h',toks:=O}):
  V2 #[X,X] X.A (call (.type "dict") [.ref l]) Q X.xe s:=by
 erw[hl,ts,e1,e2,e3];obtain⟨_,its,n,rv,ho⟩:=(show Q6 X.prog X.w H s.heap l (.lst (ts.map V.ref)) from I.hok l _ e1)
 cases nA rv;erw[oy I.hok e2 e3,pv,r,hp];have ac:↑pv=↑ps:=by
  rw[<-↑r];unfold lh;rw[u9]
 have Z:(pv.map (·.1)).Nodup:=by
  rw[<-r.keys,ZH];exact pA _ (λa b aa e=>aa (Ue e)) hn
 refine vm (n:=1) I.tk ?_;refine AwK.dict_pairs (knd:=Ql X.prog X.w) (I.ok.hd hc) (ps:=pv) ho (by rw[ur,u9];omega) (by rw[uE];omega) (λj v p h1 h2=>hp j v p (by simpa using h1) h2) λh' O U kp=>?_
 rw[WY (by simpa using Z),GS] at U
 exact λhtk=>h h' O pv htk kp r U
def CI (Z:X.calm=v_):jg X (.type "dict") (λxs H Q=>∃(l:o6) (ps:oq (Str×V)),xs= [.ref l]/\BZ H l ps/\(ps.map (·.1)).Nodup/\↑ps<=1000/\∀q,H q=U_->Q (.ref q) (upd H q (.dK (lh ps)))):=by
 exists 2,xs,us,Q,I,r,h;erw[h,l,ps,rfl,hl,hn,hz,q];erw[jZ r,u,rfl,ru];cases ru;refine Id Z I hl hn hz λh' aa pv htk kp rel dd=>?_;have O:(#[0,s]==Vn)=false:=by
  rw[beq_eq_false_iff_ne];exact U4 I.big
 have U:↑(lh ps)<=sizeLine:=by unfold lh;rw[u9,uE];omega
 exact⟨.ref #[0,s],_,I.laid kp (uA _) (wC U O rel dd),1,q _ I.fresh⟩
def CJ (Z:X.calm=v_):jg X (.type "dict") (λxs H Q=>∃(l:o6) (ps:oq (Str×V)),xs= [.ref l]/\BZ H l ps/\(ps.map (·.1)).Nodup/\↑ps<=1000/\∀q o,H q=U_->Q (.ref q) (upd H q (.frz o (.dK (lh ps))))):=by
 exists 2,xs,us,Q,I,r,h;erw[h,l,ps,rfl,hl,hn,hz,q];erw[jZ r,u,rfl,ru];cases ru;refine Id Z I hl hn hz λh' aa pv htk kp rel dd=>?_;have O:(#[0,s]==Vn)=false:=by
  rw[beq_eq_false_iff_ne];exact U4 I.big
 have U:↑(lh ps)<=sizeLine:=by unfold lh;rw[u9,uE];omega
 erw[id dd,o,es,ep,ho,rr];exact⟨.ref #[0,s],_,I.laid (o:= .frz o (.dK (lh ps))) kp (uA _) [ho:wC U O rel dd],1,q _ o I.fresh⟩
end
mutual
noncomputable def puD:D->Bool
 | .str _=>v_
 | .int _=>v_
 | .tup xs=>puL xs
 |_=>V1
noncomputable def puL:oq D->Bool
 | []=>v_
 |x::r=>puD x&&puL r
end
mutual
noncomputable def eqD:D->D->Bool
 | .str a,.str b=>a==b
 | .int a,.int b=>a==b
 | .tup xs,.tup ys=>eqL xs ys
 |_,_=>V1
noncomputable def eqL:oq D->oq D->Bool
 | [],[]=>v_
 |x::r,y::q=>eqD x y&&eqL r q
 |_,_=>V1
end
mutual
theorem AE:∀{d e:D},puD d=v_->(eqD d e=v_↔d=e)
 | .str a,e,_=>by cases e<;>simp[eqD]
 | .int a,e,_=>by cases e<;>simp[eqD]
 | .tup xs,.tup ys,h=>by
  have:=eqL_iff (xs:=xs) (ys:=ys) (by simpa [puD] using h)
  simp![eqD,this,D.tup.injEq]
 | .tup xs,.non,_=>by simp[eqD]
 | .tup xs,.bl _,_=>by simp[eqD]
 | .tup xs,.int _,_=>by simp[eqD]
 | .tup xs,.str _,_=>by simp[eqD]
 | .tup xs,.lst,_=>by simp[eqD]
 | .tup xs,.dct,_=>by simp[eqD]
 | .non,_,h=>by simp[puD] at h
 | .bl _,_,h=>by simp[puD] at h
 | .lst,_,h=>by simp[puD] at h
 | .dct,_,h=>by simp[puD] at h
theorem eqL_iff:∀{xs ys:oq D},puL xs=v_->(eqL xs ys=v_↔xs=ys)
 | [],[],_=>by simp[eqL]
 | [],_::_,_=>by simp[eqL]
 |_::_,[],_=>by simp[eqL]
 |x::r,y::q,h=>by
  have h':puD x=v_/\puL r=true:=by simpa [puL] using h
  simp![eqL,uG,AE h'.1,eqL_iff h'.2,UO]
end
mutual
theorem Is.det {H:Hp}:∀{d e:D}{v:V},puD d=v_->puD e=v_->Is H d v->Is H e v->d=e
 | .str a,e,v,_,he,h1,h2=>by
  obtain⟨rfl,_⟩:=(show v= .str a/\_ from h1)
  cases e with
  |str b=>obtain⟨q,_⟩:=(show V.str a=V.str b/\_ from h2);cases q;rfl
  |int b=>cases(show V.str a=V.int b from h2)
  |tup ys=>erw[h2,p,us,q,_];cases q
  |_=>simp[puD] at he
 | .int a,e,v,_,he,h1,h2=>by
  cases(show v= .int a from h1)
  cases e with
  |str b=>obtain⟨q,_⟩:=(show V.int a=V.str b/\_ from h2);cases q
  |int b=>cases(show V.int a=V.int b from h2);rfl
  |tup ys=>erw[h2,p,us,q,_];cases q
  |_=>simp[puD] at he
 | .tup xs,e,v,hd,he,h1,h2=>by
  erw[h1,p,vs,rfl,Z,hl];cases e with
  |str b=>obtain⟨q,_⟩:=(show V.ref p=V.str b/\_ from h2);cases q
  |int b=>cases(show V.ref p=V.int b from h2)
  |tup ys=>
   erw[h2,p',us,q,O,U];cases q;rw[Z] at O;cases O;rw[IsL.det (by simpa [puD] using hd) (by simpa [puD] using he) hl U]
  |_=>simp[puD] at he
 | .non,_,_,hd,_,_,_=>by simp[puD] at hd
 | .bl _,_,_,hd,_,_,_=>by simp[puD] at hd
 | .lst,_,_,hd,_,_,_=>by simp[puD] at hd
 | .dct,_,_,hd,_,_,_=>by simp[puD] at hd
theorem IsL.det {H:Hp}:∀{xs ys:oq D}{vs:oq V},puL xs=v_->puL ys=v_->IsL H xs vs->IsL H ys vs->xs=ys
 | [],[],_,_,_,_,_=>rfl
 | [],_::_,_,_,_,h1,h2=>by
  cases(show _= [] from h1)
  erw[h2,v,r,q,_];cases q
 |_::_,[],_,_,_,h1,h2=>by
  cases(show _= [] from h2)
  erw[h1,v,r,q,_];cases q
 |x::xs,y::ys,_,hd,he,h1,h2=>by
  erw[h1,v,r,rfl,Z,a2];erw[h2,v',r',q,b1,b2];cases q;have O:puD x=v_/\puL xs=true:=by simpa [puL] using hd
  have U:puD y=v_/\puL ys=true:=by simpa [puL] using he
  rw[Is.det O.1 U.1 Z b1,IsL.det O.2 U.2 a2 b2]
end
def AD:∀(xs ys:oq D),eqL xs ys=((Va (min ↑xs ↑ys)).all (λj=>eqD (xs.getD j .non) (ys.getD j .non))&&↑xs==↑ys)
 | [],[]=>by simp[eqL]
 | [],_::_=>by simp[eqL]
 |_::_,[]=>by simp[eqL]
 |x::r,y::q=>by
  have O:=AD r q;rw[uB,uB,show min (↑r+1) (↑q+1)=min ↑r ↑q+1 by omega,Tv,vM,Us]
  have e:(Va (min ↑r ↑q)).all ((λj=>eqD ((x::r).getD j .non) ((y::q).getD j .non))∘HU)=(Va (min ↑r ↑q)).all λj=>eqD (r.getD j .non) (q.getD j .non):=by congr 1
  rw[e];have e2:(↑r+1==↑q+1)=(↑r==↑q):=by rw[vO];simp
  rw[e2,TQ,<-O]
  rfl
section
variable {X:Cx}{ou:oq (o6×Obj)}{σ:St}{H:Hp}{s:o9}
variable {z:Str}{e:D}{A:om}
def Ly (I:#[I]){t:Tok}{u:V}{b:o7}(U:puD e=v_)(h2:Is H e u)(O:ik u b)(Z:A.units<Vb):Vm A s (.str z t) b (eqD (.str z) e):=by
 cases e with
 |str y=>
  obtain⟨rfl,_⟩:=(show u= .str y/\_ from h2)
  erw[O,t2,rfl];exact tT _ _ _ _
 |int y=>
  cases(show u= .int y from h2)
  erw[O,t2,rfl];exact UE _ _ _ _
 |tup ys=>
  erw[id h2,p,us,rfl,hp,hl];cases O;erw[I.tuple (.inl (.of hp)),its,_,q,_];exact FV _ _ q Z
 |_=>simp[puD] at U
def BO (I:#[I]){z:Int}{t:Tok}{u:V}{b:o7}(U:puD e=v_)(h2:Is H e u)(O:ik u b)(Z:A.units<Vb):Vm A s (.int z t) b (eqD (.int z) e):=by
 cases e with
 |str y=>
  obtain⟨rfl,_⟩:=(show u= .str y/\_ from h2)
  erw[O,t2,rfl];exact UD _ _ _ _
 |int y=>
  cases(show u= .int y from h2)
  erw[O,t2,rfl];exact T1 _ _ _ _
 |tup ys=>
  erw[id h2,p,us,rfl,hp,hl];cases O;erw[I.tuple (.inl (.of hp)),its,_,q,_];exact rQ _ _ q Z
 |_=>simp[puD] at U
def wT:∀{xs:oq D}{j:Nat}{x:D},puL xs=v_->xs[j]? =u_ x->puD x=v_
 | [],_,_,_,e=>by simp at e
 |y::r,0,x,h,e=>by
  have h':puD y=v_/\puL r=true:=by simpa [puL] using h
  have:y=x:=by simpa using e
  exact this▸h'.1
 |y::r,j+1,x,h,e=>by
  have h':puD y=v_/\puL r=true:=by simpa [puL] using h
  exact wT h'.2 (by simpa using e)
def Lx (I:#[I]){xs:oq D}{e:D}{v u:V}{a b:o7}{A:om}(hd:puD (.tup xs)=v_)(he:puD e=v_)(h1:Is H (.tup xs) v)(h2:Is H e u)(r1:ik v a)(r2:ik u b)(hu:A.units<Vb)
  (ih:∀x∈xs,∀(e:D) (v u:V) (a b:o7),puD x=v_->puD e=v_->Is H x v->Is H e u->ik v a->ik u b->Vm A.in1 s a b (eqD x e)):Vm A s a b (eqD (.tup xs) e):=by
 erw[id h1,p,vs,rfl,hp,hl];cases r1;erw[I.tuple (.inl (.of hp)),its,rv,q,_];cases e with
 |str y=>
  obtain⟨rfl,_⟩:=(show u= .str y/\_ from h2)
  erw[r2,t2,rfl];exact Ro _ _ q hu
 |int y=>
  cases(show u= .int y from h2)
  erw[r2,t2,rfl];exact Fw _ _ q hu
 |tup ys=>
  by_cases hv:V.ref p=u
  ·have:=Is.det (e:= .tup ys) hd he h1 (hv▸h2);subst hv;cases r2;rw[<-this,(AE hd).mpr rfl];exact GX _
  ·erw[id h2,p',us,rfl,aa,O];cases r2;erw[I.tuple (.inl (.of aa)),its',U,q',_];have l1:↑its=↑xs:=by rw[<-↑rv,↑hl]
   have l2:↑its'=↑ys:=by rw[<-↑U,↑O]
   have ac:puL xs=true:=by simpa [puD] using hd
   have ad:puL ys=true:=by simpa [puD] using he
   have ae:=UT (e:=λj=>eqD (xs.getD j .non) (ys.getD j .non)) q q' hu λj a1 a2=>by
    have Z:j<↑xs:=by rw[<-l1];simpa using a1
    have j2:j<↑ys:=by rw[<-l2];simpa using a2
    obtain⟨v1,e1,i1⟩:=hl.get (i:=j) (d:=xs[j]) (by simp[Z])
    obtain⟨v2,e2,i2⟩:=O.get (i:=j) (d:=ys[j]) (by simp[j2])
    erw[rv.get e1,b1,f1,g1];erw[U.get e2,b2,f2,g2];have k1:its.toArray[j]=b1:=by
     have:=f1;rw[uc (by rwa[l1])] at this
     simpa using this
    have k2:its'.toArray[j]=b2:=by
     have:=f2;rw[uc (by rwa[l2])] at this
     simpa using this
    have d1:xs.getD j .non=xs[j]:=by simp[VP,Z]
    have d2:ys.getD j .non=ys[j]:=by simp[VP,j2]
    show Vm _ s _ _ (eqD (xs.getD j .non) (ys.getD j .non));rw[k1,k2,d1,d2];exact ih _ (uV Z) _ _ _ _ _ (wT (j:=j) ac (by simp[Z])) (wT (j:=j) ad (by simp[j2])) i1 i2 g1 g2
   have e1:eqD (.tup xs) (.tup ys)=((Va (min its.toArray.size its'.toArray.size)).all (λj=>eqD (xs.getD j .non) (ys.getD j .non))&&its.toArray.size==its'.toArray.size):=by
    rw[ur,ur,l1,l2,<-AD];simp![eqD]
   rw[e1];exact RK (λz=>hv (by rw[z])) ae
 |_=>simp[puD] at he
def MJ (I:#[I]):∀(n:Nat) (d e:D) (v u:V) (a b:o7) (A:om),dp d<=n->puD d=v_->puD e=v_->Is H d v->Is H e u->ik v a->ik u b->A.units+n<Vb->Vm A s a b (eqD d e):=by
 intro n
 induction n with
 |zero=>
  intro d e v u a b A hn hd U h1 h2 Z r2 hu;cases d with
  |int z=>
   cases(show v= .int z from h1)
   erw[Z,t,rfl];exact BO I U h2 r2 hu
  |str z=>simp[dp] at hn
  |tup xs=>simp[dp] at hn
  |_=>simp[puD] at hd
 |succ n ih=>
  intro d e v u a b A hn hd U h1 h2 Z r2 hu;have O:A.units<cLine:=U6 (UY _ _) hu;cases d with
  |int z=>
   cases(show v= .int z from h1)
   erw[Z,t,rfl];exact BO I U h2 r2 O
  |str z=>
   obtain⟨rfl,_⟩:=(show v= .str z/\_ from h1)
   erw[Z,t,rfl];exact Ly I U h2 r2 O
  |tup xs=>
   have hm:dpL xs<=n:=by
    have:dp (.tup xs)=1+dpL xs:=by simp![dp]
    omega
   exact Lx I hd U h1 h2 Z r2 O λx hx e v u a b k1 k2 k3 k4 k5 k6=>ih x e v u a b A.in1 ((Z3 xs).mp hm x hx) k1 k2 k3 k4 k5 k6 (by rw[uZ];omega)
  |_=>simp[puD] at hd
end
section
variable {X:Cx}
nonrec def trD:D->Bool
 | .str _=>v_
 | .tup xs=>puL xs
 |_=>V1
def LU {d:D}(h:trD d=v_):puD d=true:=by
 cases d<;>simp_all [trD,puD]
variable {ou:oq (o6×Obj)}{σ:St}{H:Hp}{s:o9}{A:om}{n:Nat}{its:oq o7}
def KL (I:#[I]){xs ys:oq D}{vs us:oq V}{its':oq o7}(hn:dpL xs<=n)(hd:puL xs=v_)(he:puL ys=v_)(hl:IsL H xs vs)(O:IsL H ys us)(rv:iq vs its)(U:iq us its')(hu:A.units+n<Vb):
  ∀j (a1:j<its.toArray.size) (a2:j<its'.toArray.size),Vm A s its.toArray[j] its'.toArray[j] (eqD (xs.getD j .non) (ys.getD j .non)):=λj a1 a2=>by
 have l1:↑its=↑xs:=by rw[<-↑rv,↑hl]
 have l2:↑its'=↑ys:=by rw[<-↑U,↑O]
 have Z:j<↑xs:=by rw[<-l1];simpa using a1
 have j2:j<↑ys:=by rw[<-l2];simpa using a2
 obtain⟨v1,e1,i1⟩:=hl.get (i:=j) (d:=xs[j]) (by simp[Z])
 obtain⟨v2,e2,i2⟩:=O.get (i:=j) (d:=ys[j]) (by simp[j2])
 erw[rv.get e1,b1,f1,g1];erw[U.get e2,b2,f2,g2];have k1:its.toArray[j]=b1:=by
  have:=f1;rw[uc (by rwa[l1])] at this
  simpa using this
 have k2:its'.toArray[j]=b2:=by
  have:=f2;rw[uc (by rwa[l2])] at this
  simpa using this
 have d1:xs.getD j .non=xs[j]:=by simp[VP,Z]
 have d2:ys.getD j .non=ys[j]:=by simp[VP,j2]
 rw[k1,k2,d1,d2];exact MJ I n _ _ _ _ _ _ A ((Z3 xs).mp hn _ (uV Z)) (wT (j:=j) hd (by simp[Z])) (wT (j:=j) he (by simp[j2])) i1 i2 g1 g2 hu
variable {e:D}{x y:V}{u:o7}
def AdU (I:#[I]){d:D}{v:o7}(h1:Is H d x)(h2:Is H e y)(p1:trD d=v_)(p2:trD e=v_)(hn:dp d<=60)(rx:ik x v)(ry:ik y u)(hu:A.units+64<Vb):
  FS A s v u (eqD d e)/\rB A s v u (!eqD d e):=by
 have O:A.units<cLine:=by omega
 cases d with
 |str z=>
  obtain⟨rfl,_⟩:=(show x= .str z/\_ from h1)
  erw[rx,t,rfl];cases e with
  |str w=>
   obtain⟨rfl,_⟩:=(show y= .str w/\_ from h2)
   erw[ry,t2,rfl];exact[pV _ _ _ _:pD _ _ _ _]
  |tup ys=>
   erw[id h2,p,us,rfl,hp,hl];cases ry;erw[I.tuple (.inl (.of hp)),its,_,q,_];exact[pN _ _ q O:pS _ _ q O]
  |_=>simp[trD] at p2
 |tup xs=>
  erw[id h1,p,vs,rfl,hp,hl];cases rx;erw[I.tuple (.inl (.of hp)),its,rv,q,_];cases e with
  |str w=>
   obtain⟨rfl,_⟩:=(show y= .str w/\_ from h2)
   erw[ry,t2,rfl];exact[pH _ _ q O:pc _ _ q O]
  |tup ys=>
   erw[id h2,p',us,rfl,aa,U];cases ry;erw[I.tuple (.inl (.of aa)),its',Z,q',_];have hm:dpL xs<=60:=by
    have:dp (.tup xs)=1+dpL xs:=by simp![dp]
    omega
   have l1:↑its=↑xs:=by rw[<-↑rv,↑hl]
   have l2:↑its'=↑ys:=by rw[<-↑Z,↑U]
   have pe:=KL I (A:=A.in1) hm (by simpa [trD] using p1) (by simpa [trD] using p2) hl U rv Z (by rw[uZ];omega)
   have e1:eqD (.tup xs) (.tup ys)=((Va (min its.toArray.size its'.toArray.size)).all (λj=>eqD (xs.getD j .non) (ys.getD j .non))&&its.toArray.size==its'.toArray.size):=by
    rw[ur,ur,l1,l2,<-AD];simp![eqD]
   rw[e1];exact[UT q q' O pe:rq q q' O pe]
  |_=>simp[trD] at p2
 |_=>simp[trD] at p1
inductive Acy (g:Bool->Bool)(x:V)(y:V)(H:Hp)(Q:VK):Prop
 |mk (d e:D)(_:Is H d x)(_:Is H e y)(_:trD d=v_)(_:trD e=v_)(_:dp d<=60)(_:Q (.bl (g (eqD d e))) H)
def Bo (O:X.A.units+64<Vb):OpR X (Vc .Eq) (Acy id):=by
 exists 2,x,y,v,u,Q,I,U,Z,h;erw[h,d,e,h1,h2,p1,p2,hn,q];exact(AdU I h1 h2 p1 p2 hn U Z O).1 X.prog X.w X.xe _ ⟨.bl _,H,I,1,q⟩
end
variable {X:Cx}
def Jy:jg X (.builtin "len") (λxs H Q=>(∃z:Str,xs= [.str z]/\↑z<=V5/\Q (.int ↑z) H)∨∃p ys,xs= [.ref p]/\(SqL X.K H p ys∨SqT X.K H p ys)/\(↑ys<=V5->Q (.int ↑ys) H)):=by
 exists 2,xs,us,Q,I,r,h;rcases h with⟨z,e,hz,q⟩|h
 ·exact kG ou s σ H xs us Q I r ⟨_,↑z,e,[hz:1],q⟩
 ·exact Io ou s σ H xs us Q I r h
variable {w:oj}{K:o0}{mg:Str->ot o7}{base:og}{f:o6}{A:om}
def AaD {P:oh}{N:oq Str}{qual:Str}{scope:Vl}{cd:o7}{outer:oq Env}{s₀:o9}{H₀:Hp}{E:XK}:
  Xq (CX1 P w) (cxOf (CX1 P w) P w K mg base N qual scope f cd A outer s₀ H₀ E) E:=by
 intro ou σ H s e s' I h;erw[h,ea,C,a0,H',B,rfl,au,ae,htk,aw,al,am,hold,hE];show V2 (Vg P w) (A.deeper (V8 qual scope #[0,s₀] f cd)) (Tg (V8 qual scope #[0,s₀] f cd) (.ref ea)) (λ_ af=>CX1 P w outer H₀ s₀ E (.ref ea) af) (λe' af=>CX1 P w outer H₀ s₀ E e' af) _;have ax:(A.deeper (V8 qual scope #[0,s₀] f cd)).frames=u_ (V8 qual scope #[0,s₀] f cd::outer):=I.ok.frames;have ag:frs (V8 qual scope #[0,s₀] f cd::outer)=#[0,s₀]::frs outer:=rfl;have O:Un (frs outer) [] H₀ H s₀.heap s.heap:=I.base;have U:Un (frs (V8 qual scope #[0,s₀] f cd::outer)) [] H H' s.heap s'.heap:=aw;have aa:FI B (V8 qual scope #[0,s₀] f cd::outer) ea (.ref C) a0 s'.heap:=am;have ac:∀b o,s.heap.get? b=u_ o->b∉frs (V8 qual scope #[0,s₀] f cd::outer)->∃o',B.get? b=u_ o':=hold;have ay:=aa.2.2.1;have ad:∀b o,s₀.heap.get? b=u_ o->b∉frs outer->b∉frs (V8 qual scope #[0,s₀] f cd::outer):=λb o e hb hm=>by
  rw[ag] at hm;rcases Aa.mp hm with rfl|hm
  ·exact A8 (uK e) (vL _)
  ·exact hb hm
 have nd:∀b∈frs outer,∀o,s'.heap.get? b=u_ o->∀vs,o.data≠ .fields vs:=λb hb o e=>by
  obtain⟨_,o',e',hn⟩:=ay.mem (show b∈(V8 qual scope #[0,s₀] f cd::outer).filterMap (·.frame) from by rw[show(V8 qual scope #[0,s₀] f cd::outer).filterMap (·.frame)=frs (V8 qual scope #[0,s₀] f cd::outer) from rfl,ag];exact uj _ hb)
  rw[e] at e';cases e';exact hn
 refine wpAny_leaves_onW (base:=B) (L:=#[0,s₀]) ax rfl aa λaA ah ao=>?_;have aB:∀b o o',B.get? b=u_ o'->s'.heap.get? b=u_ o->aA.get? b=u_ o:=λb o o' Z e2=>by
  have:=aa.1 b o' Z;rw[e2] at this;cases this;exact ah.1 b o Z
 exists ea,C,a0,H',B,1,au.trans I.os,ae,htk,⟨?_,?_,?_,?_,?_,?_,?_⟩,al,ah,?_,hE
 ·intro b o Z hn hb hx;have e2:=O.keep b o Z hn hb hx;have ak:=O.free b o Z hn hx;have ap:=ad b o Z hb;have e3:=U.keep b o e2 ak ap hx;erw[ac b o e2 ap,o',e4];exact aB b o o' e4 e3
 ·intro b o Z hn hb hx;erw[O.slot b o Z hn hb hx,sl,e2];have ak:=O.free b o Z hn hx;obtain⟨aC,e3⟩:=U.slot b _ e2 ak (by rw[ag];exact uj _ hb) hx
  erw[ao b _ e3 (nd b hb _ e3),aq,e4];exact[aq:e4]
 ·intro b o Z hn hx;erw[O.there b o Z hx,o',e2];exact U.free b o' e2 (O.free b o Z hn hx) hx
 ·intro b o Z hx;erw[O.there b o Z hx,o',e2];by_cases hb:b∈frs outer
  ·erw[U.there b o' e2 hx,o2,e3];erw[ao b _ e3 (nd b hb _ e3),aq,e4];exact[_:e4]
  ·erw[ac b o' e2 (ad b o Z hb),o2,e3];exact[o2:ah.1 b o2 e3]
 ·exact λb xs e=>U.tups b xs (O.tups b xs e)
 ·exact λb o u e=>U.frzs b o u (O.frzs b o u e)
 ·intro b ps e;erw[O.tbls b ps e,m1,Z];erw[U.tbls b _ Z,m2,e2];exact⟨m1++m2,by rwa[<-T2]⟩
 ·intro b o Z hb;obtain⟨o',e2⟩:=O.there b o Z (by simp)
  exact ac b o' e2 (ad b o Z hb)
def Am:Xq (CX1 X.prog X.w) X E0:=λ_ _ _ _ _ _ _ h=>by
 erw[h,_,_,_,_,_,_,_,_,_,_,_,_,_,z];exact Vk z
end L2
namespace L2
open PySem PyProof.Rows
variable {H:Hp}{p:o6}
def Tk.updD {xs ys:oq (Key×V)}(h:H p=u_ (.dK xs)):Tk H (upd H p (.dK ys)):=by
 exists λb zs e=>?_,λb zs e=>[zs:?_],λb zs e=>?_
 ·rw[qh (λz=>by rw[z,h] at e;cases e)];exact e
 ·rw[qh (λz=>by rw[z,h] at e;cases e)];exact e
 ·by_cases z:b=p
  ·exact⟨ys,by rw[z];exact qg⟩
  ·exact⟨zs,by rwa[qh z]⟩
variable {C dx:o6}
def Tk.updI {O dx':o6}{xs ys:oq (Str×V)}(h:H p=u_ (.ins C dx xs)):Tk H (upd H p (.ins O dx' ys)):=
 ⟨λb zs e=>by rw[qh (λz=>by rw[z,h] at e;cases e)];exact e,λb zs e=>⟨zs,by rw[qh (λz=>by rw[z,h] at e;cases e)];exact e⟩,λb zs e=>⟨zs,by rw[qh (λz=>by rw[z,h] at e;cases e)];exact e⟩⟩
section
variable {X:Cx}
inductive NP (x:V)(vs:List V)(H:Hp)(Q:VK):Prop
 |mk (z y:Str)(_:x= .str z)(_:vs= [.str y])(_:Q (.bl (gQ z y)) H)
def El:MtM X "str.startswith" NP:=by
 exists 2,x,vs,v,us,Q,I,O,rv,h;erw[h,z,y,rfl,rfl,q];erw[O,t,rfl];erw[rv.one,u,rfl,t',rfl];exact SC.startswith ⟨.bl (gQ z y),H,I,1,q⟩
end
def O1 {d A:o6}{o:Obj}{H1:Hp}{tc:TT}{te:TE}{tl:St}{Q:VK}{kvs:oq (Key×V)}{ls:oq Str}(p:Str->Bool)(f:Str->V)(hd:H1 d=u_ (.frz o (.dK kvs)))(hk:kvs.map (·.1)=ls.map V3)(hn:↑ls<=V5)(hA:H1 A=U_)
  (U:∀z H (R:Bool->Hp->Prop),z∈ls->ig H1 H->R (p z) H->tc (u_ (.str z)::tl) H R)
  (Z:∀z H (R:VK),z∈ls->ig H1 H->R (f z) H->te (u_ (.str z)::tl) H R)
  (hQ:∀H',ig H1 H'->H' A=u_ (.lst ((ls.filter p).map f))->Q (.ref A) H'):CS A (Itd d o) (YV 0) tc te (U_::tl) H1 Q:=by
 have ac:↑kvs=↑ls:=by
  have:=A9 Vv hk
  simpa using this
 exists ↑ls,λi σ ys H=>(∃w,σ=w::tl)/\ys=((ls.take i).filter p).map f/\ig H1 H,hn,[[U_:1]:1:qf hA _],?_,?_
 ·rintro i σ ys H hi ⟨⟨w,rfl⟩,rfl,sm⟩ O hy;exists [kvs:sm _ _ hd:()]
  rintro x H' ⟨rfl,hx⟩;have e:=hx kvs (sm _ _ hd);have e2:(kvs.map λp=>kV p.1)[i]? =u_ (V.str ls[i]):=by
   have:(kvs.map λp=>kV p.1)=(kvs.map (·.1)).map kV:=by rw[uO];rfl
   rw[this,hk,uO,uC,uc hi]
   rfl
  rw[e2] at e;cases e;have et:ls.take (i+1)=ls.take i++ [ls[i]]:=by rw[vc,uc hi];rfl
  have aa:∀ys,ig H1 (upd H' A (.lst ys)):=λys b o' e=>by
   rw[qh (qi e hA)];exact sm _ _ e
  dsimp![YV,gN];refine U ls[i] H' _ (uV hi) sm ?_;cases hp:p ls[i] with
  |true=>
   refine lq (Z ls[i] H' _ (uV hi) sm ⟨O,⟨0⟩,?_,aa _⟩);rw[et,UP,um];simp[hp]
  |false=>
   refine iU ⟨O,⟨0⟩,?_,sm⟩;rw[et,UP,um];simp[hp]
 ·rintro σ ys H ⟨_,rfl,sm⟩ O;rw[vU] at O;exact[[kvs:sm _ _ hd:()]:hQ H sm O]
def O0 {K:o0}{a A:o6}{H1:Hp}{te:TE}{tl:St}{Q:VK}{ls:oq Str}(C:Nat->oq V->Hp->Prop)(ha:H1 a=u_ (.lst (ls.map V.str)))(hn:↑ls<=V5)(hA:H1 A=U_)(h0:C 0 [] (upd H1 A (.lst [])))
  (aa:∀i z ys H,ls[i]? =u_ z->C i ys H->H A=u_ (.lst ys)->H a=u_ (.lst (ls.map V.str))->↑ys<=i->∀R:VK,(∀y H4,H4 A=u_ (.lst ys)->H4 a=u_ (.lst (ls.map V.str))->C (i+1) (ys++ [y]) (upd H4 A (.lst (ys++ [y])))->R y H4)->te (u_ (.str z)::tl) H R)
  (hQ:∀ys H,C ↑ls ys H->H A=u_ (.lst ys)->Q (.ref A) H):CS A (Itl K a) (YV 0) sS te (U_::tl) H1 Q:=by
 have U:a≠A:=qi ha hA;refine⟨↑ls,λi σ ys H=>(∃w,σ=w::tl)/\C i ys H/\H a=u_ (.lst (ls.map V.str)),hn,⟨[U_:1],h0,by rwa[qh U]⟩,?_,?_⟩
 ·rintro i σ ys H hi ⟨⟨w,rfl⟩,hc,Z⟩ O hy;have e0:(ls.map V.str)[i]? =u_ (V.str ls[i]):=by rw[uC,uc hi];rfl
  exists ⟨_,_,SqL.of Z,e0⟩;rintro x H' ⟨rfl,hx⟩;have e:=hx _ (SqL.of Z);rw[e0] at e;cases e;dsimp![YV,sS,gN];rw[A6 rfl];exact aa i ls[i] ys H' (uc hi) hc O Z hy _ λy H4 h4 h5 c4=>⟨h4,⟨0⟩,c4,by rwa[qh U]⟩
 ·rintro σ ys H ⟨_,hc,Z⟩ O;exact⟨⟨_,SqL.of Z,by simp⟩,hQ ys H hc O⟩
section
variable {X:Cx}{K:o0}{o e:Expr}{es:oq Expr}{to:TE}{t:TA}{name:Str}{apos cpos:Pos}{T id:String}{r:V->oq V->Hp->VK->Prop}
def AaC (hK:X.K=K)(pa:HS T)(slot:Slot T name id)(ac:Hu (.builtin id)=pure (.type "method_descriptor"))(hm:MtR X id r)(ho:PE X o to)(ha:PA X (e::es) t)
  (U:G9 o name X.env (eval o X.env)=eval o X.env)
  (aa:((Vd cpos (V6 (e::es) X.env)).all (λx=> !x.1)&&(VT cpos (VY [] X.env)).all (λx=>x.1.isSome)
   &&decide (↑(e::es)+↑([]:oq gS)+(if([]:oq gS).isEmpty then 0 else 1)<30))=v_)
  (Z:(apos.endLine==cpos.line)=v_) (hs:V6 (e::es) X.env=(V1,eval e X.env)::V6 es X.env) (O:(Vd cpos (V6 es X.env)).any (·.1)=V1):
  PE X (.Call (.Attribute o name apos) (e::es) [] cpos) (tBM K T r to t):=by
 subst hK;exact XY pa slot ac hm ho ha U aa Z hs O
end
nonrec def Mm:D->Bool
 | .non=>v_
 |d=>trD d
section
variable {X:Cx}
inductive Ad1 (x:V)(y:V)(H:Hp)(Q:VK):Prop
 |mk (d:D)(z:Str)(_:Is H d x)(_:y= .str z)(_:↑z<=1000)(_:Mm d=v_)(_:dp d<=60)(_:Q (.bl (eqD d (.str z))) H)
def AaI (hu:X.A.units+64<Vb):OpR X (Vc .Eq) Ad1:=by
 exists 2,x,y,v,u,Q,I,O,U,h;erw[h,d,z,hd,rfl,hz,Z,hp,q];cases d with
 |non=>
  cases(show x= .non from hd)
  exact QW ou s σ H .non (.str z) v u Q I O U ⟨1,by simpa [eqD] using q⟩
 |str a=>exact Bo hu ou s σ H x _ v u Q I O U ⟨_,.str z,hd,⟨1,by rw[uE];omega⟩,Z,1,hp,q⟩
 |tup a=>exact Bo hu ou s σ H x _ v u Q I O U ⟨_,.str z,hd,⟨1,by rw[uE];omega⟩,Z,1,hp,q⟩
 |_=>simp[Mm,trD] at Z
inductive AdZ (K:PySem.W.Frag)(x:V)(y:V)(H:Hp)(Q:VK):Prop
 |mk (d:D)(p:Addr)(ls:List Str)(_:Is H d x)(_:y= .ref p)(_:(SqL K H p (ls.map V.str)∨SqT K H p (ls.map V.str)))(_:(∀z∈ls,↑z<=1000))(_:Mm d=v_)(_:dp d<=60)(_:Q (.bl (ls.any λz=>eqD d (.str z))) H)
def EX (us:oq Str):(us.map V.str).all zi=true:=by
 rw[Us,U3];exact λ_ _=>rfl
def Mi (hu:X.A.units+64<Vb):OpR X (Vc .In) (AdZ X.K):=by
 exists 2,x,y,v,u,Q,I,rx,ry,h;erw[h,d,p,ls,hd,rfl,O,ac,hk,hp,q];cases d with
 |non=>
  cases(show x= .non from hd)
  refine Q9 ou s σ H .non _ v u Q I rx ry ⟨p,0,O,1,EX _,?_⟩;have e:inV .non (ls.map V.str)=ls.any λz=>eqD .non (.str z):=by
   unfold inV;rw[Hz]
   rfl
  rwa[A4 ub,e]
 |str a=>
  erw[hd,rfl,_];refine Q9 ou s σ H _ _ v u Q I rx ry ⟨p,0,O,1,EX _,?_⟩;have e:inV (.str a) (ls.map V.str)=ls.any λz=>eqD (.str a) (.str z):=by
   unfold inV;rw[Hz];refine A9 (λf=>ls.any f) (funext λz=>?_);show(z==a)=(a==z);rw[vO,beq_iff_eq,beq_iff_eq];exact eq_comm
  rwa[A4 ub,e]
 |tup xs=>
  have e:(ls.any λz=>eqD (.tup xs) (.str z))=false:=by
   rw[Tu];intro z _;simp[eqD]
  rw[e] at q;erw[hd,pa,vs,rfl,ha,hl];cases rx;cases ry;erw[I.tuple (.inl (.of ha)),ad,ae,af,_];have ag:X.A.units<cLine:=by omega
  have U:∀{its:oq o7},iq (ls.map V.str) its->∀w∈its,∀A:om,A.units+1<Vb->Vm A s w (.ref pa) false:=by
   intro its r w Z A hA;erw[List.mem_iff_getElem?.mp Z,j,hj];have aa:j<↑ls:=by
    have:=(Ag.mp hj).1;have:=↑r;rw[u9] at this;omega
   obtain⟨u',e1,e2⟩:=r.get (i:=j) (x:=V.str ls[j]) (by rw[uC,uc aa];rfl)
   rw[hj] at e1;cases e1;have:=MJ I 1 (.str ls[j]) (.tup xs) (.str ls[j]) (.ref pa) _ (.ref pa) A (by simp[dp]) rfl (by simpa [Mm,trD,puD] using hk) ⟨1,by have:=ac _ (uV aa);rw[uE];omega⟩ ⟨pa,vs,1,ha,hl⟩ e2 rfl ()
   simpa [eqD] using this
  rcases O with O|O
  ·erw[I.list O,its,r,pl,hz];refine f_ (λ_=>V1) pl.isList (λw Z=>U r w (by simpa using Z) _ ?_) ⟨.bl _,H,I,1,?_⟩
   ·first|omega|(rw[uZ];omega)|(rw[uZ,uZ];omega)|(rw[uZ,uZ,uZ];omega)
   ·rw[show its.toArray.any (λ_=>V1)=V1 by rw[Fp];exact List.any_eq_false.mpr λ_ _=>ub]
    exact q
  ·erw[I.tuple O,its,r,pl,hz];refine RU (λ_=>V1) pl (λw Z=>U r w (by simpa using Z) _ ?_) ⟨.bl _,H,I,1,?_⟩
   ·first|omega|(rw[uZ];omega)|(rw[uZ,uZ];omega)|(rw[uZ,uZ,uZ];omega)
   ·rw[show its.toArray.any (λ_=>V1)=V1 by rw[Fp];exact List.any_eq_false.mpr λ_ _=>ub]
    exact q
 |_=>simp[Mm,trD] at hk
end
end L2
namespace L2
open PySem PySem.Spec PyProof.Rows Builtin Builtin.Str
nonrec def SM (P:oh)(w:oj)(K:o0)(mg:Str->ot o7)(base:og)(k:Nat)(tf:TE)(t:TA):TE:=λσ H Q=>tf σ H λv H1=>∃(f:o6) (fd:V4) (ps:oq Str) (sp:Sp),v= .ref f/\
 FnOk P w K mg base CX0 k f fd ps sp/\xM K fd ps []/\PySem.W.keepIn K (.ref f)=v_/\t σ H1 λvs H2=>sp vs H2 Q E0
def KI {X:Cx}{o i e:Expr}{es:oq Expr}{O pos:Pos}{Z:TE}{t:TA}{k:Nat}{P:oh}{w:oj}{K:o0}{mg:Str->ot o7}{base:og}(e1:X.prog=P/\X.w=w/\X.K=K/\X.mg=mg/\X.base=base)(hf:PE X (.Subscript o i O) Z)(hr:mw k X.A)(ha:PA X (e::es) t)
  (he:V6 (e::es) X.env=(V1,eval e X.env)::V6 es X.env) (U:(Vd pos (V6 es X.env)).any (·.1)=V1):
  PE X (.Call (.Subscript o i O) (e::es) [] pos) (SM P w K mg base k Z t):=by
 erw[e1,rfl,rfl,rfl,rfl,rfl];exists 2,Q,I,h;show V2 _ _ (do GJ pos (<-eval (.Subscript o i O) X.env) [] (Vd pos (V6 (e::es) X.env)) (VT pos (VY [] X.env))) _ _ s
 refine A7 (thn (hf ou s σ H _ I h) λu s1 zq=>?_);erw[zq,v,H1,I1,rv,f,fd,ps,sp,ev,F,hb,hk,q];subst ev;obtain rfl:u=V7 f:=rv;refine Ui (h₀:=X.base) I1.ok.mod.kin hk (thn (ha pos ou s1 σ H1 _ I1 q) λus s2 ⟨vs,H2,I2,r,q2⟩=>[I2.kIn:?_]) he U;exact Ba (ds:= []) (dvs:= []) F hr hb .nil qE I2 r (by rw[uX];exact q2)
def Kg (z y:Str)(hi O:Nat):∀(l:oq Nat) (st:Array Nat×Nat),(VN l st (gX z y hi O)).run.fst.size<=st.fst.size+↑l
 | [],st=>uA _
 |a::l,st=>by
  rw[Uo];unfold gX;split
  ·refine vg (Kg z y hi O l _) ?_;simp![rD,uB];omega
  ·refine vg (Kg z y hi O l _) ?_;simp![uB];omega
def ON (z y:Str)(n:Nat):↑(occurrences z y 0 ↑z n)<=↑z+1:=by
 rw[RY];have:=Kg z y ↑z n (Gq 0 (↑z+1-0)) (#[],0);rw[vq];refine vg this ?_;simp
nonrec def spG (z y:Str):oq Str:=if(decide (↑z<↑y)||decide (Vp z<Vp y))=v_ then [z] else if(occurrences z y 0 ↑z (↑z+1)).isEmpty=v_ then [z] else partsBetween z (occurrences z y 0 ↑z (↑z+1)) ↑y
def NE (z y:Str):↑(spG z y)<=↑z+2:=by
 unfold spG;have h:=ON z y (↑z+1);split
 ·simp
 ·split
  ·simp
  ·simp![partsBetween,u9,List.length_zip,uB,uJ,UJ];omega
variable {z:Str}
def ND {y p:Str}(h:p∈spG z y):↑p<=↑z:=by
 unfold spG at h;split at h
 ·rw[Ab] at h;subst h;exact uA _
 ·split at h
  ·rw[Ab] at h;subst h;exact uA _
  ·simp![partsBetween,Ae] at h;erw[h,q,_,e];rw[<-e];exact strSub_length_le _ _ _
section
variable {X:Cx}
inductive NR (x:V)(vs:List V)(H:Hp)(Q:VK):Prop
 |mk (z:_)(y:_)(_:x= .str z)(_:vs= [.str y])(_:0<↑y)(_:↑z<=1000)(_:∀p,H p=U_->Q (.ref p) (upd H p (.lst ((spG z y).map V.str))))
def En:MtM X "str.split" NR:=by
 exists 2,x,vs,v,us,Q,I,rx,rv,h;erw[h,z,y,rfl,rfl,hy,hz,q];erw[rx,t,rfl];erw[rv.one,u,rfl,t',rfl];have Z:↑z<=sizeLine:=by rw[uE];omega
 have O:(↑y==0)=false:=by simp;omega
 have one:spG z y= [z]->∀(T:Nat),0<T->EP X ou σ Q (.ref #[0,s]) {s with heap:=s.heap.push {cls:= .type "list",data:= .seq [Vt z t].toArray},toks:=T}:=λe T hT=>by
  rw[e] at q;exact JK (ys:= [V.str z]) I (.cons (show ik (V.str z) _ from[t:1]) .nil) (by show 1<=V5;decide) q
 cases h1:(decide (↑z<↑y)||decide (Vp z<Vp y)) with
 |true=>
  refine vK vG (vW _ _ _) vA (U7 _ _) (FB z y t t' h1) ?_;exact one (by unfold spG;rw[A6 h1]) s.toks I.tk
 |false=>
  cases U:(occurrences z y 0 ↑z (↑z+1)).isEmpty with
  |true=>
   refine vK vG (vW _ _ _) vA (U7 _ _) (rN z y t t' h1 O U) ?_;exact one (by unfold spG;rw[A4 (by rw[h1];decide),A6 U]) s.toks I.tk
  |false=>
   have hl:=NE z y;have e:spG z y=partsBetween z (occurrences z y 0 ↑z (↑z+1)) ↑y:=by unfold spG;rw[A4 (by rw[h1];decide),A4 (by rw[U];decide)]
   rw[e] at q hl;refine vK vG (vW _ _ _) vA (U7 _ _) (FX z y t t' h1 O U Z (by rw[uE];omega)) ?_
   exact JK I (XU _ _) (by rw[u9,uE];omega) q
inductive Aam (K:PySem.W.Frag)(x:V)(vs:List V)(H:Hp)(Q:VK):Prop
 |mk (sep:Str)(p:Addr)(l:List Str)(_:x= .str sep)(_:vs= [.ref p])(_:SqT K H p (l.map V.str))(_:(l.map (·.length)).sum+↑l*↑sep<=1000000)(_:Q (.str (V9 sep l)) H)
def Lg:MtM X "str.join" (Aam X.K):=by
 exists 2,x,vs,v,us,Q,I,Z,rv,h;erw[h,sep,p,l,rfl,rfl,hp,hz,q];erw[Z,t,rfl];erw[rv.one,u,rfl,ru];cases ru;erw[I.tuple hp,its,r,pl,hl];erw[nz r,ps,rfl,e2];have U:tooLong ((ps.map (·.1)).toArray.foldl (·+ ·.length+↑sep) 0)=false:=by
  rw[e2];have:=StrLaws.joinTotal sep l;rw[this];unfold tooLong;refine ug ?_;rw[uE];omega
 refine vK F.slot_str_join (vW _ _ _) F.entry_str_join (F.args_str_join_2 _ _) (meets_str_join_tuple sep t p ps U) ⟨(let⟨o,h1,h2,n,h3⟩:=pl;⟨o,n,h1,h2,h3⟩),?_⟩;have O:(glued sep (ps.map (·.1))).length<=sizeLine:=joinFit_length U
 match ps,e2,O with
 | [],e2,O=>
  subst e2;exact⟨O,.str _,H,I.tok _,⟨0⟩,q⟩
 | [a],e2,_=>
  subst e2;exact⟨.str _,H,I,[a.2:1],q⟩
 |a::b::r,e2,O=>
  subst e2;exists O,.str _,H,I.tok _,⟨0⟩;rw[StrLaws.glued_eq_join];exact q
def S6:SlR X (λx lo hi H Q=>Ads x lo hi H Q∨Adt X.K x lo hi H Q):=S5.or Dx
end
end L2
namespace L2
open PySem PySem.Spec PyProof.Rows
open Builtin.Int (intBits)
section
variable {X:Cx}
inductive Ad0 (K:PySem.W.Frag)(w:World)(x:V)(y:V)(H:Hp)(Q:VK):Prop
 |mk (z:_)(a:_)(r:_)(_:x= .str z)(_:y= .ref a)(_:Ix K w a)(_:PySem.W.nsIn K a z=u_ r)(_:Q (.bl r.isSome) H)
def AaH:OpR X (Vc .In) (Ad0 X.K X.w):=by
 exists 2,x,y,v,u,Q,I,U,Z,h;erw[h,z,a,r,rfl,rfl,[hs,es,n,O,hk],hn,q];erw[U,t,rfl];cases Z;have hm:=PySem.W.mapOf_K (prog:=X.prog) (w:=X.w) I.kIn O hk;refine Fd (Tn X.prog X.w z t) hs hm ⟨.bl r.isSome,H,I.tok _,?_,q⟩;rw[PySem.W.find_K O hn]
 rfl
end
end L2
namespace L2
open PySem PySem.Spec PyProof.Rows
mutual
noncomputable def nD:D->Bool
 | .non=>v_
 | .str _=>v_
 | .int _=>v_
 | .tup xs=>nL xs
 |_=>V1
noncomputable def nL:oq D->Bool
 | []=>v_
 |x::r=>nD x&&nL r
end
def Ek:∀{xs:oq D}{j:Nat}{x:D},nL xs=v_->xs[j]? =u_ x->nD x=v_
 | [],_,_,_,e=>by simp at e
 |y::r,0,x,h,e=>by
  have h':nD y=v_/\nL r=true:=by simpa [nL] using h
  have:y=x:=by simpa using e
  exact this▸h'.1
 |y::r,j+1,x,h,e=>by
  have h':nD y=v_/\nL r=true:=by simpa [nL] using h
  exact Ek h'.2 (by simpa using e)
end L2
namespace AwZ
open PySem PySem.Spec PyProof.Rows
def tc_enum0 (a:o7):RH "enumerate" [[a]:[]]=pure Unit.unit:=by kernel_rfl
def nc_enum0 (a:o7):rH "enumerate.__new__" [[.type "enumerate",a]:[]]=pure Unit.unit:=by kernel_rfl
def enum0_made (l:o6)(its:Array o7):Gz (VI.«enumerate.__new__» [[.type "enumerate",.ref l]:[]]) (λ_ R s=>s.heap.IsTuple l its/\
   R (.ok (.ret (.ref (q1 s.heap l).objs.size))) {s with heap:=(q1 s.heap l).push {cls:= .type "enumerate",data:= .fields #[.none,.bool V1,.ref #[0,s],Vw 0,.none,.none]}}):=
 .of_wp λprog w A R s h=>by
  erw[s,O,g,d,tk,os];erw[h,U,h];have sub:=sub_enumerate;have h1:FK (HZ ⟨O,g,d,tk,os⟩) l its:=U
  wp_walk
  refine wpAny_stack_any λst=>uF ?_;split
  ·rename_i c _ _ _ _ _
   cases(c==gV "enumerate")
   ·wp_walk using U5 h1
    exact[0:h]
   ·wp_walk using U5 h1
    exact[0:h]
  ·wp_walk using U5 h1
   exact[0:h]
end AwZ
namespace L2
open PySem PySem.Spec PyProof.Rows
section
variable {X:Cx}{ou:oq (o6×Obj)}{σ:St}{H:Hp}{s:o9}
nonrec def Ad9 (K:o0)(te:TE):TI:=λσ H R=>te σ H λx H2=>∃a xs,x= .ref a/\SqT K H2 a xs/\(↑xs<=V5->R (Ite K a 0) H2)
def Bl {U:oq Expr}{c:Nat}{tp p pos:Pos}{e:Expr}{te:TE}(hg:Gl X "enumerate")(hm:X.mg "enumerate"=U_)(he:PE X e te)(hs:V6 [e] X.env= [(V1,eval e X.env)]):
  PI X (.Tuple U c tp) (.Call (.Name "enumerate" p) [e] [] pos) (Ad9 X.K te):=by
 exists 2,R,I,h;have ha:PA X [e] (IL te Sq):=qb he qd hs;refine hX (wJ I hg hm boot_enumerate (vD (thn (ha pos ou s σ H (λvs H2=>match vs with| [x]=>∃a xs,x= .ref a/\SqT X.K H2 a xs/\(↑xs<=V5->R (Ite X.K a 0) H2)|_=>False) I h) λus s2 zq=>?_) (by rw[hs];rfl) ()));erw[zq,vs,H2,I2,r1,q1]
 match vs,r1,q1 with
 | [x],r1,q1=>
 erw[q1,a,xs,rfl,hA,q];erw[jZ r1,u,rfl,ru];cases ru;erw[I2.tuple hA,its,ra,pa,za];refine AwZ.new_kw (kw:= []) F.called_enumerate () (AwZ.tc_enum0 _) (AwZ.nc_enum0 _) (λobj=>F.args_object_init_2 _ _) F.entry_enumerate_new (AwZ.enum0_made a its.toArray) ⟨show s2.heap.IsTuple a its.toArray from pa,?_⟩
 have hz:(AwZ.q1 s2.heap a).objs.size=#[0,s2]+1:=vo ..;have O:VG ((AwZ.q1 s2.heap a).push {cls:= .type "enumerate",data:= .fields #[.none,.bool V1,.ref #[0,s2],Vw 0,.none,.none]}) (AwZ.q1 s2.heap a).objs.size #[0,s2] 0 .none:=uL _ rfl;exists [_:O:1];refine rY (s:={s2 with heap:=_}) O ?_
 exists _,[(AwZ.q1 s2.heap a).objs.size,#[0,s2]],_,_,H2,1,I2.kept (t':=s2.toks) (λb o e=>ud _ (ud _ e)),C4 a _ _ 0,[[.none:O]:⟨_,ud _ (uL _ rfl),1,1⟩:λe=>U4 (UX _) (hz.symm.trans e)],λx hx=>?_,q za;have Z:#[0,s2]<=x:=by
  simp![uH,uW,uS] at hx;exact Sg hz hx
 exact I2.fpOk Z (I2.hok.fresh Z)
mutual
noncomputable def eqN:D->D->Bool
 | .non,.non=>v_
 | .str a,.str b=>a==b
 | .int a,.int b=>a==b
 | .tup xs,.tup ys=>eqNL xs ys
 |_,_=>V1
noncomputable def eqNL:oq D->oq D->Bool
 | [],[]=>v_
 |x::r,y::q=>eqN x y&&eqNL r q
 |_,_=>V1
end
mutual
theorem E5:∀{d e:D},nD d=v_->(eqN d e=v_↔d=e)
 | .non,e,_=>by cases e<;>simp[eqN]
 | .str a,e,_=>by cases e<;>simp[eqN]
 | .int a,e,_=>by cases e<;>simp[eqN]
 | .tup xs,.tup ys,h=>by
  have:=eqNL_iff (xs:=xs) (ys:=ys) (by simpa [nD] using h)
  simp![eqN,this,D.tup.injEq]
 | .tup xs,.non,_=>by simp[eqN]
 | .tup xs,.bl _,_=>by simp[eqN]
 | .tup xs,.int _,_=>by simp[eqN]
 | .tup xs,.str _,_=>by simp[eqN]
 | .tup xs,.lst,_=>by simp[eqN]
 | .tup xs,.dct,_=>by simp[eqN]
 | .bl _,_,h=>by simp[nD] at h
 | .lst,_,h=>by simp[nD] at h
 | .dct,_,h=>by simp[nD] at h
theorem eqNL_iff:∀{xs ys:oq D},nL xs=v_->(eqNL xs ys=v_↔xs=ys)
 | [],[],_=>by simp[eqNL]
 | [],_::_,_=>by simp[eqNL]
 |_::_,[],_=>by simp[eqNL]
 |x::r,y::q,h=>by
  have h':nD x=v_/\nL r=true:=by simpa [nL] using h
  simp![eqNL,uG,E5 h'.1,eqNL_iff h'.2,UO]
end
mutual
theorem Is.detN {H:Hp}:∀{d e:D}{v:V},nD d=v_->nD e=v_->Is H d v->Is H e v->d=e
 | .non,e,v,_,he,h1,h2=>by
  cases(show v= .non from h1)
  cases e with
  |non=>rfl
  |str b=>obtain⟨q,_⟩:=(show V.non=V.str b/\_ from h2);cases q
  |int b=>cases(show V.non=V.int b from h2)
  |tup ys=>erw[h2,p,us,q,_];cases q
  |_=>simp[nD] at he
 | .str a,e,v,_,he,h1,h2=>by
  obtain⟨rfl,_⟩:=(show v= .str a/\_ from h1)
  cases e with
  |non=>cases(show V.str a=V.non from h2)
  |str b=>obtain⟨q,_⟩:=(show V.str a=V.str b/\_ from h2);cases q;rfl
  |int b=>cases(show V.str a=V.int b from h2)
  |tup ys=>erw[h2,p,us,q,_];cases q
  |_=>simp[nD] at he
 | .int a,e,v,_,he,h1,h2=>by
  cases(show v= .int a from h1)
  cases e with
  |non=>cases(show V.int a=V.non from h2)
  |str b=>obtain⟨q,_⟩:=(show V.int a=V.str b/\_ from h2);cases q
  |int b=>cases(show V.int a=V.int b from h2);rfl
  |tup ys=>erw[h2,p,us,q,_];cases q
  |_=>simp[nD] at he
 | .tup xs,e,v,hd,he,h1,h2=>by
  erw[id h1,p,vs,rfl,Z,hl];cases e with
  |non=>cases(show V.ref p=V.non from h2)
  |str b=>obtain⟨q,_⟩:=(show V.ref p=V.str b/\_ from h2);cases q
  |int b=>cases(show V.ref p=V.int b from h2)
  |tup ys=>
   erw[h2,p',us,q,O,U];cases q;rw[Z] at O;cases O;rw[IsL.detN (by simpa [nD] using hd) (by simpa [nD] using he) hl U]
  |_=>simp[nD] at he
 | .bl _,_,_,hd,_,_,_=>by simp[nD] at hd
 | .lst,_,_,hd,_,_,_=>by simp[nD] at hd
 | .dct,_,_,hd,_,_,_=>by simp[nD] at hd
theorem IsL.detN {H:Hp}:∀{xs ys:oq D}{vs:oq V},nL xs=v_->nL ys=v_->IsL H xs vs->IsL H ys vs->xs=ys
 | [],[],_,_,_,_,_=>rfl
 | [],_::_,_,_,_,h1,h2=>by
  cases(show _= [] from h1)
  erw[h2,v,r,q,_];cases q
 |_::_,[],_,_,_,h1,h2=>by
  cases(show _= [] from h2)
  erw[h1,v,r,q,_];cases q
 |x::xs,y::ys,_,hd,he,h1,h2=>by
  erw[h1,v,r,rfl,Z,a2];erw[h2,v',r',q,b1,b2];cases q;have O:nD x=v_/\nL xs=true:=by simpa [nL] using hd
  have U:nD y=v_/\nL ys=true:=by simpa [nL] using he
  rw[Is.detN O.1 U.1 Z b1,IsL.detN O.2 U.2 a2 b2]
end
def kc:∀(xs ys:oq D),eqNL xs ys=((Va (min ↑xs ↑ys)).all (λj=>eqN (xs.getD j .non) (ys.getD j .non))&&↑xs==↑ys)
 | [],[]=>by simp[eqNL]
 | [],_::_=>by simp[eqNL]
 |_::_,[]=>by simp[eqNL]
 |x::r,y::q=>by
  have O:=kc r q;rw[uB,uB,show min (↑r+1) (↑q+1)=min ↑r ↑q+1 by omega,Tv,vM,Us]
  have e:(Va (min ↑r ↑q)).all ((λj=>eqN ((x::r).getD j .non) ((y::q).getD j .non))∘HU)=(Va (min ↑r ↑q)).all λj=>eqN (r.getD j .non) (q.getD j .non):=by congr 1
  rw[e];have e2:(↑r+1==↑q+1)=(↑r==↑q):=by rw[vO];simp
  rw[e2,TQ,<-O]
  rfl
variable {e:D}{A:om}
def sj (I:#[I]){u:V}{b:o7}(U:nD e=v_)(h2:Is H e u)(O:ik u b)(Z:A.units<Vb):Vm A s .none b (eqN .non e):=by
 cases e with
 |non=>
  cases(show u= .non from h2)
  cases O;exact GX _
 |str y=>
  obtain⟨rfl,_⟩:=(show u= .str y/\_ from h2)
  erw[O,t2,rfl];exact Rm _ _
 |int y=>
  cases(show u= .int y from h2)
  erw[O,t2,rfl];exact FN _ _
 |tup ys=>
  erw[id h2,p,us,rfl,hp,hl];cases O;erw[I.tuple (.inl (.of hp)),its,_,q,_];exact pf q Z
 |_=>simp[nD] at U
variable {z:Str}
def E7 (I:#[I]){t:Tok}{u:V}{b:o7}(U:nD e=v_)(h2:Is H e u)(O:ik u b)(Z:A.units<Vb):Vm A s (.str z t) b (eqN (.str z) e):=by
 cases e with
 |non=>
  cases(show u= .non from h2)
  cases O;exact Rp _ _
 |str y=>
  obtain⟨rfl,_⟩:=(show u= .str y/\_ from h2)
  erw[O,t2,rfl];exact tT _ _ _ _
 |int y=>
  cases(show u= .int y from h2)
  erw[O,t2,rfl];exact UE _ _ _ _
 |tup ys=>
  erw[id h2,p,us,rfl,hp,hl];cases O;erw[I.tuple (.inl (.of hp)),its,_,q,_];exact FV _ _ q Z
 |_=>simp[nD] at U
def sr (I:#[I]){z:Int}{t:Tok}{u:V}{b:o7}(U:nD e=v_)(h2:Is H e u)(O:ik u b)(Z:A.units<Vb):Vm A s (.int z t) b (eqN (.int z) e):=by
 cases e with
 |non=>
  cases(show u= .non from h2)
  cases O;exact Fc _ _
 |str y=>
  obtain⟨rfl,_⟩:=(show u= .str y/\_ from h2)
  erw[O,t2,rfl];exact UD _ _ _ _
 |int y=>
  cases(show u= .int y from h2)
  erw[O,t2,rfl];exact T1 _ _ _ _
 |tup ys=>
  erw[id h2,p,us,rfl,hp,hl];cases O;erw[I.tuple (.inl (.of hp)),its,_,q,_];exact rQ _ _ q Z
 |_=>simp[nD] at U
def DQ {xs ys:oq D}{vs us:oq V}{its its':oq o7}{A:om}(hd:nL xs=v_)(he:nL ys=v_)(hl:IsL H xs vs)(O:IsL H ys us)(rv:iq vs its)(U:iq us its')
  (ih:∀x∈xs,∀(e:D) (v u:V) (a b:o7),nD x=v_->nD e=v_->Is H x v->Is H e u->ik v a->ik u b->Vm A s a b (eqN x e)):
  ∀j (a1:j<its.toArray.size) (a2:j<its'.toArray.size),Vm A s its.toArray[j] its'.toArray[j] (eqN (xs.getD j .non) (ys.getD j .non)):=λj a1 a2=>by
 have l1:↑its=↑xs:=by rw[<-↑rv,↑hl]
 have l2:↑its'=↑ys:=by rw[<-↑U,↑O]
 have Z:j<↑xs:=by rw[<-l1];simpa using a1
 have j2:j<↑ys:=by rw[<-l2];simpa using a2
 obtain⟨v1,e1,i1⟩:=hl.get (i:=j) (d:=xs[j]) (by simp[Z])
 obtain⟨v2,e2,i2⟩:=O.get (i:=j) (d:=ys[j]) (by simp[j2])
 erw[rv.get e1,b1,f1,g1];erw[U.get e2,b2,f2,g2];have k1:its.toArray[j]=b1:=by
  have:=f1;rw[uc (by rwa[l1])] at this
  simpa using this
 have k2:its'.toArray[j]=b2:=by
  have:=f2;rw[uc (by rwa[l2])] at this
  simpa using this
 have d1:xs.getD j .non=xs[j]:=by simp[VP,Z]
 have d2:ys.getD j .non=ys[j]:=by simp[VP,j2]
 rw[k1,k2,d1,d2];exact ih _ (uV Z) _ _ _ _ _ (Ek (j:=j) hd (by simp[Z])) (Ek (j:=j) he (by simp[j2])) i1 i2 g1 g2
def E6 (I:#[I]){xs:oq D}{e:D}{v u:V}{a b:o7}{A:om}(hd:nD (.tup xs)=v_)(he:nD e=v_)(h1:Is H (.tup xs) v)(h2:Is H e u)(r1:ik v a)(O:ik u b)(hu:A.units<Vb)
  (ih:∀x∈xs,∀(e:D) (v u:V) (a b:o7),nD x=v_->nD e=v_->Is H x v->Is H e u->ik v a->ik u b->Vm A.in1 s a b (eqN x e)):Vm A s a b (eqN (.tup xs) e):=by
 erw[id h1,p,vs,rfl,hp,hl];cases r1;erw[I.tuple (.inl (.of hp)),its,rv,q,_];cases e with
 |non=>
  cases(show u= .non from h2)
  cases O;exact pM q hu
 |str y=>
  obtain⟨rfl,_⟩:=(show u= .str y/\_ from h2)
  erw[O,t2,rfl];exact Ro _ _ q hu
 |int y=>
  cases(show u= .int y from h2)
  erw[O,t2,rfl];exact Fw _ _ q hu
 |tup ys=>
  by_cases hv:V.ref p=u
  ·have:=Is.detN (e:= .tup ys) hd he h1 (hv▸h2);subst hv;cases O;rw[<-this,(E5 hd).mpr rfl];exact GX _
  ·erw[id h2,p',us,rfl,aa,U];cases O;erw[I.tuple (.inl (.of aa)),its',Z,q',_];have l1:↑its=↑xs:=by rw[<-↑rv,↑hl]
   have l2:↑its'=↑ys:=by rw[<-↑Z,↑U]
   have ac:=UT (e:=λj=>eqN (xs.getD j .non) (ys.getD j .non)) q q' hu (DQ (by simpa [nD] using hd) (by simpa [nD] using he) hl U rv Z ih)
   have e1:eqN (.tup xs) (.tup ys)=((Va (min its.toArray.size its'.toArray.size)).all (λj=>eqN (xs.getD j .non) (ys.getD j .non))&&its.toArray.size==its'.toArray.size):=by
    rw[ur,ur,l1,l2,<-kc];simp![eqN]
   rw[e1];exact RK (λz=>hv (by rw[z])) ac
 |_=>simp[nD] at he
def Abm (I:#[I]):∀(n:Nat) (d e:D) (v u:V) (a b:o7) (A:om),dp d<=n->nD d=v_->nD e=v_->Is H d v->Is H e u->ik v a->ik u b->A.units+n<Vb->Vm A s a b (eqN d e):=by
 intro n
 induction n with
 |zero=>
  intro d e v u a b A hn hd U h1 h2 Z r2 hu;cases d with
  |non=>
   cases(show v= .non from h1)
   cases Z;exact sj I U h2 r2 hu
  |int z=>
   cases(show v= .int z from h1)
   erw[Z,t,rfl];exact sr I U h2 r2 hu
  |str z=>simp[dp] at hn
  |tup xs=>simp[dp] at hn
  |_=>simp[nD] at hd
 |succ n ih=>
  intro d e v u a b A hn hd U h1 h2 Z r2 hu;have O:A.units<cLine:=U6 (UY _ _) hu;cases d with
  |non=>
   cases(show v= .non from h1)
   cases Z;exact sj I U h2 r2 O
  |int z=>
   cases(show v= .int z from h1)
   erw[Z,t,rfl];exact sr I U h2 r2 O
  |str z=>
   obtain⟨rfl,_⟩:=(show v= .str z/\_ from h1)
   erw[Z,t,rfl];exact E7 I U h2 r2 O
  |tup xs=>
   have hm:dpL xs<=n:=by
    have:dp (.tup xs)=1+dpL xs:=by simp![dp]
    omega
   exact E6 I hd U h1 h2 Z r2 O λx hx e v u a b k1 k2 k3 k4 k5 k6=>ih x e v u a b A.in1 ((Z3 xs).mp hm x hx) k1 k2 k3 k4 k5 k6 (by rw[uZ];omega)
  |_=>simp[nD] at hd
inductive Aap (g:Bool->Bool)(x:V)(y:V)(H:Hp)(Q:VK):Prop
 |mk (ds es:List D)(_:Is H (.tup ds) x)(_:Is H (.tup es) y)(_:nL ds=v_)(_:nL es=v_)(_:dpL ds<=60)(_:Q (.bl (g (eqNL ds es))) H)
variable {ds:oq D}{x y:V}{u:o7}
def Adr (I:#[I]){es:oq D}{v:o7}(h1:Is H (.tup ds) x)(h2:Is H (.tup es) y)(hn:nL ds=v_)(Z:nL es=v_)(hd:dpL ds<=60)(rx:ik x v)(ry:ik y u)(hu:X.A.units+64<Vb):
  FS X.A s v u (eqNL ds es)/\rB X.A s v u (!eqNL ds es):=by
 erw[id h1,p,vs,rfl,hp,hl];erw[id h2,p',us,rfl,aa,O];cases rx;cases ry;erw[I.tuple (.inl (.of hp)),its,rv,q,_];erw[I.tuple (.inl (.of aa)),its',U,q',_];have l1:↑its=↑ds:=by rw[<-↑rv,↑hl]
 have l2:↑its'=↑es:=by rw[<-↑U,↑O]
 have pe:=DQ (A:=X.A.in1) hn Z hl O rv U λx hx e v u a b k1 k2 k3 k4 k5 k6=>Abm I 60 x e v u a b X.A.in1 ((Z3 ds).mp hd x hx) k1 k2 k3 k4 k5 k6 (by rw[uZ];omega)
 have e1:=UT (e:=λj=>eqN (ds.getD j .non) (es.getD j .non)) q q' () pe
 have e2:=rq (e:=λj=>eqN (ds.getD j .non) (es.getD j .non)) q q' () pe
 rw[ur,ur,l1,l2,<-kc] at e1 e2;exact[e1:e2]
def W0 (U:X.A.units+64<Vb):OpR X (Vc .Eq) (Aap id):=by
 exists 2,x,y,v,u,Q,I,Z,ry,h;erw[h,ds,es,h1,h2,hn,O,hd,q];exact(Adr I h1 h2 hn O hd Z ry U).1 X.prog X.w X.xe _ ⟨.bl _,H,I,1,q⟩
def Ka (U:X.A.units+64<Vb):OpR X (Vc .NotEq) (Aap not):=by
 exists 2,x,y,v,u,Q,I,Z,ry,h;erw[h,ds,es,h1,h2,hn,O,hd,q];exact(Adr I h1 h2 hn O hd Z ry U).2 X.prog X.w X.xe _ ⟨.bl _,H,I,1,q⟩
end
end L2
namespace L2
open PySem PyProof.Rows
section
variable {X:Cx}{ou:oq (o6×Obj)}{σ:St}{H:Hp}{s:o9}
def Lh {pl:Sem Bool}{k:Nat}{C f:o6}{fd:V4}{ps:oq Str}{sp:Sp}{m:Str}{o:Expr}{apos pos:Pos}{e:Expr}{es:oq Expr}{ta:TE}{t:TA}{Q:VK}{E:XK}(he:PE X.nox o ta)(c:Cls X.K C)(hm:Sb X.K C m f)(F:FnOk X.prog X.w X.K X.mg X.base (CX1 X.prog X.w) k f fd ps sp)(hr:mw k X.A)
  (hb:xM X.K fd ps []) (ha:PA X.nox (e::es) t) (I:#[I]) (h:ta σ H λx H1=>∃a dx fs,x= .ref a/\H1 a=u_ (.ins C dx fs)/\fs.lookup m=U_/\t σ H1 λvs H2=>sp (x::vs) H2 Q E)
  (aa:V6 (e::es) X.env=(V1,eval e X.env)::V6 es X.env) (ac:(Vd pos (V6 es X.env)).any (·.1)=V1)
  (ht:eval (.Call (.Attribute o m apos) (e::es) [] pos) X.env=(do
   let ov<-eval o X.env
   G6 apos.atName
   let(f,first)<-VR [ov] (Gx ov m pl)
   GJ pos f first (Vd pos (V6 (e::es) X.env)) (VT pos (VY [] X.env)))):
  V2 #[X,X] X.A (eval (.Call (.Attribute o m apos) (e::es) [] pos) X.env) (EP X ou σ Q) (Cat X ou σ E) s:=by
 refine PySem.W.methodCall_KW (pl:=pl) (vt (he ou s σ H _ (I.wish _) h) (λu s1 h1=>?_) λ_ _ z=>z.elim) ht;erw[h1,x,H1,ad,rx,a,dx,fs,ex,ea,l,q];have I1:Inv X ou σ H1 s1:=ad.unwish;subst ex;obtain rfl:u=V7 a:=rx;refine zB I1 ea c hm l ?_;refine Ui (first:= [.ref a]) (h₀:=X.base) I.ok.mod.kin hm.kp (vt (ha pos ou s1 σ H1 _ (I1.wish _) q) (λus s2 h2=>?_) λ_ _ z=>z.elim) aa ac;erw[h2,vs,H2,ae,r,q2];have O:Inv X ou σ H2 s2:=ae.unwish;exists O.kIn;have r2:iq (V.ref a::vs) (V7 a::us):= .cons rfl r;have hl:↑(V7 a::us)=↑ps:=by rw[<-↑r2];exact F.len _ _ _ _ q2
 have U:=hb s2 (V7 a::us) O.kIn (by rwa[uX])
 rw[uX] at U;refine GQ (Um (F.run X.A X.stack s2 H2 [V7 a::us:[]] (V7 a::us) (V.ref a::vs) Q E hr O.env0 U r2 q2 (.inl O.tk)) λr s' Z=>?_);cases r with
 |error e=>exact⟨H2,s2,O,Z⟩
 |ok fl=>
  cases fl with
  |ret u=>exact O.after Z
  |next=>exact Vk Z
  |brk=>exact Vk Z
  |cont=>exact Vk Z
nonrec def Acc (C:o6)(m:Str)(sp:Sp)(ta:TE)(t:TA)(Cc:o6)(ts:TS):TS:=λD σ H=>ta σ H λx H1=>∃a dx fs,x= .ref a/\H1 a=u_ (.ins C dx fs)/\fs.lookup m=U_/\t σ H1 λvs H2=>sp (x::vs) H2 (λ_ H3=>D.nx σ H3) (λ_ C' H3=>C'=u_ Cc/\ts D σ H3)
def NU {pl:Sem Bool}{k:Nat}{C f:o6}{fd:V4}{ps:oq Str}{sp:Sp}{m c:Str}{o:Expr}{apos np cpos U Z pos:Pos}{e:Expr}{es:oq Expr}{ta:TE}{t:TA}{Cc C':o6}{b₀:Stmt}{O:oq Stmt}{ts:TS}(ho:PE X.nox o ta)(cl:Cls X.K C)(hm:Sb X.K C m f)(F:FnOk X.prog X.w X.K X.mg X.base (CX1 X.prog X.w) k f fd ps sp)(hr:mw k X.A)
  (hb:xM X.K fd ps []) (ha:PA X.nox (e::es) t) (aa:X.stack=X.env::X.outer/\X.env.frame=u_ X.env.locals) (ac:Gl X c) (ad:X.mg c=u_ (.ref C'))
  (hx:PySem.W.exmOne X.K (.ref Cc) (.ref C')=u_ v_) (hs:∀ee xe,PSs (X.marked ee xe) (b₀::O) ts) (ae:(c==("__debug__":Str))=V1)
  (he:V6 (e::es) X.env=(V1,eval e X.env)::V6 es X.env) (af:(Vd cpos (V6 es X.env)).any (·.1)=V1) (ag:GB (.Call (.Attribute o m apos) (e::es) [] cpos) U_ U.line X.env=pure V1)
  (ht:eval (.Call (.Attribute o m apos) (e::es) [] cpos) X.env=(do
   let ov<-eval o X.env
   G6 apos.atName
   let(f,first)<-VR [ov] (Gx ov m pl)
   GJ cpos f first (Vd cpos (V6 (e::es) X.env)) (VT cpos (VY [] X.env)))):
  PS X (.Try [.Expr (.Call (.Attribute o m apos) (e::es) [] cpos) U] [.ExceptHandler (u_ (.Name c np)) U_ (b₀::O) Z] [] [] pos) (Acc C m sp ta t Cc ts):=by
 exists 2,D,I,h;refine wpAny_Try_except (tN ?_);refine vt (rM (Q:=SP X ou D) (vt (Lh ho cl hm F hr hb ha I h he af ht) (λv s1 ⟨y,H1,I1,r1,q1⟩=>⟨σ,H1,I1,q1⟩) λ_ _ z=>z) I.quiet ag) (λfl s1 q=>?_) λe' s1 q=>LD q aa ac ad hx hs ae;cases fl with
 |next=>exact Ul (Ul q)
 |ret v=>exact q
 |brk=>exact q
 |cont=>exact q
end
end L2
namespace L2
open PySem PySem.Spec PyProof.Rows
structure FF (K:o0)(mg:Str->ot o7)(x:Str)(st:Stmt)(ps:oq Str)(f:o6)(fd:V4):Prop where
 F:Fun K x x st f fd
 b:xM K fd ps []
 m:mg x=u_ (.ref f)
structure FM (K:o0)(C:o6)(x q:Str)(st:Stmt)(ps:oq Str)(f:o6)(fd:V4):Prop where
 F:Fun K x q st f fd
 b:xM K fd ps []
 h:Sb K C x f
nonrec def FZ (K:o0)(x q:Str)(st:Stmt)(f:o6):Prop:=∃(oc kV dc pm cd ct:o7) (od an:ot o6) (sl:Array (ot o7)),K.lookup f=u_ ⟨oc,od,.func (PySem.W.fnOf x q (YG st) (yZ st) (qj st) .none kV dc pm an cd ct),sl⟩/\PySem.W.codeIn K cd q=v_/\PySem.W.keepIn K (.ref f)=v_
nonrec def FZg (K:o0)(x:Str)(st:Stmt)(f:o6):Prop:=PySem.W.nsIn K Vo x=u_ (u_ (.ref f))/\FZ K x x st f
nonrec def FZm (K:o0)(C:o6)(x q:Str)(st:Stmt)(f:o6):Prop:=PySem.W.findIn K (.ref C) x=u_ (u_ (.ref f))/\PySem.W.isFn K (.ref f)=v_/\FZ K x q st f
nonrec def BOk (x q:Str)(st:Stmt)(ps:oq Str):Prop:=∀(kV doc pm:o7) (an:ot o6) (cdv ct:o7) (us:oq o7),↑us=↑ps->gU (PySem.W.fnOf x q (YG st) (yZ st) (qj st) .none kV doc pm an cdv ct) [us:[]]=pure (ps.zip us)
variable {K:o0}{h:og}{mg:Str->ot o7}{st:Stmt}{f:o6}
def Qk (X:K.In h)(G:h.Ns Vo mg){x:Str}(z:FZg K x st f)(ps:oq Str)(O:BOk x x st ps):∃fd,FF K mg x st ps f fd:=by
 erw[z,a,oc,kV,dc,pm,U,ct,od,an,sl,l,c,k];have F:=MF (st:=st) l c k;exact⟨_,F,F.binds O,uT X G a⟩
variable {C:o6}
def yP {x q:Str}(z:FZm K C x q st f)(ps:oq Str)(O:BOk x q st ps):∃fd,FM K C x q st ps f fd:=by
 erw[z,a,i,oc,kV,dc,pm,U,ct,od,an,sl,l,c,k];have F:=MF (st:=st) l c k;exact⟨_,F,F.binds O,[a:i:k]⟩
variable {fd:V4}
def FF.law {x:Str}{ps:oq Str}(T:FF K mg x st ps f fd){y:Str}(h:∀(kV doc pm:o7) (an:ot o6) (cdv ct u:o7),gU (PySem.W.fnOf x x (YG st) (yZ st) (qj st) .none kV doc pm an cdv ct) [[u]:[]]=pure [(y,u)])(s:o9)(u:o7):Gj s fd [[u]:[]] [(y,u)]:=by
 erw[T.F.ex,oc,od,kV,doc,pm,an,cdv,ct,osl,rfl,lk,O];exact .of_eq (h kV doc pm an cdv ct u)
nonrec def txt? (u:o7):ot Str:=match u with
 | .str z _=>u_ z
 |_=>U_
nonrec def TZ (K:o0)(q:o6)(l:oq Str):Prop:=∃(d:ot o6) (i:Array o7) (n:Nat) (sl:Array (ot o7)),K.lookup q=u_ ⟨.type "tuple",d,.seq i n,sl⟩/\i.toList.map txt? =l.map u_
def C9:∀{l:oq Str}{us:oq o7},us.map txt? =l.map u_->iq (l.map V.str) us
 | [],[],_=> .nil
 |z::l,u::us,h=>by
  rw[uD,uD] at h;injection h with h1 h2
  cases u with
  |str y t=>
   have:y=z:=uM h1;subst this;exact .cons [t:1] (C9 h2)
  |_=>cases h1
 | [],_::_,h=>by simp at h
 |_::_,[],h=>by simp at h
variable {H:Hp}
def TZ.sq {q:o6}{l:oq Str}(h:TZ K q l)(hz:↑l<=100):SqT K H q (l.map V.str):=by
 erw[h,d,its,n,sl,U,e];have O:its.size=↑l:=by rw[<-vq];simpa using A9 Vv e
 exact .inr ⟨_,its,n,U,1,1,by rw[O];exact UW (X0 ()),C9 e⟩
nonrec def TZn (K:o0)(a:o6)(x:Str)(l:oq Str):Prop:=∃q,PySem.W.nsIn K a x=u_ (u_ (.ref q))/\TZ K q l
end L2
namespace L2
open PySem PyProof.Rows
variable {σ:St}{H:Hp}
def qw {t u:TS}{D:mL}(h:∀N:St->Hp->Prop,(∀O H',u D O H'->N O H')->t {D with nx:=N} σ H):ni t u D σ H:=h (u D) λ_ _ h=>h
section
variable {X:Cx}{ou:oq (o6×Obj)}{σ:St}{H:Hp}{s:o9}{d:o6}
def Inv.redesc {u O:HO}(I:#[I])(h:H d=u_ u)(n1:∀xs,u≠ .tup xs)(Z:∀y,u≠ .own y)(n3:∀ps,u≠ .tbl ps)(n4:∀o v,X.H₀ d≠u_ (.frz o v))(new:Q6 X.prog X.w (upd H d O) s.heap d O):Inv X ou σ (upd H d O) s:=by
 have U:∀b,H b=U_->upd H d O b=none:=λb e=>by rw[qh (λz=>by rw[z,h] at e;cases e)];exact e
 exists I.ok,I.os,I.bare,⟨I.base.keep,I.base.slot,λb o q n hx=>U b (I.base.free b o q n hx),I.base.there,λb xs q=>?_,λb o v q=>?_,λb ps q=>?_⟩,I.loc,I.cell,U _ I.free,λx c e=>U _ (I.freeC x c e),λp hp=>?_,λb v e=>?_,I.len,I.tk
 ·have e:=I.base.tups b xs q;rw[qh (λz=>by rw[z,h] at e;exact n1 xs (uM e))]
  exact e
 ·have e:=I.base.frzs b o v q;rw[qh (λz=>n4 o v (by rwa[<-z]))]
  exact e
 ·erw[I.base.tbls b ps q,more,e];exact⟨more,by rw[qh (λz=>by rw[z,h] at e;exact n3 _ (uM e))];exact e⟩
 ·erw[I.pin p hp,h1,h2,h3,h4,h5];exact⟨h1,U _ h2,h3,h4,h5⟩
 ·by_cases c:b=d
  ·subst c;rw[qg] at e;cases e;exact new
  ·rw[qh c] at e;exact(I.hok b v e).stay (λ_ _ _ q=>q) (λc q=>by rw[qh (λz=>by rw[z,h] at q;exact Z _ (uM q))];exact q) λc xs q=>by rw[qh (λz=>by rw[z,h] at q;exact n1 _ (uM q))];exact q
end
end L2
namespace L2
open PySem PySem.Spec PyProof.Rows
section
variable {X:Cx}{ou:oq (o6×Obj)}{σ:St}{H:Hp}{s:o9}{d:o6}
def Inv.holdK {kvs:oq (Key×V)}(I:#[I])(h:H d=u_ (.dK kvs)):(∀o v,X.H₀ d≠u_ (.frz o v))/\∃o,Inv X ou σ (upd H d (.frz o (.dK kvs))) s:=by
 have O:∀o v,X.H₀ d≠u_ (.frz o v):=λo v z=>by have:=I.base.frzs d o v z;rw[h] at this;cases this
 erw[CH I.hok h,hz,lo,vs,r,dd];erw[id dd,o,es,ep,U,Z];exact⟨O,o,I.redesc h (λ_ z=>by cases z) (λ_ z=>by cases z) (λ_ z=>by cases z) O [U:wC hz lo r dd]⟩
end
section
variable {x q:Str}{st:Stmt}{a b c d:Str}
def bo1 (h:∀(kV doc pm:o7) (an:ot o6) (cdv ct u:o7),gU (PySem.W.fnOf x q (YG st) (yZ st) (qj st) .none kV doc pm an cdv ct) [[u]:[]]=pure [(a,u)]):BOk x q st [a]:=by
 intro k1 k2 k3 U k5 Z us O;rcases us with _|⟨u,_|⟨_,_⟩⟩
 ·cases O
 ·exact h k1 k2 k3 U k5 Z u
 ·cases O
def bo2 (h:∀(kV doc pm:o7) (an:ot o6) (cdv ct u v:o7),gU (PySem.W.fnOf x q (YG st) (yZ st) (qj st) .none kV doc pm an cdv ct) [[u,v]:[]]=pure [(a,u),(b,v)]):BOk x q st [a,b]:=by
 intro k1 k2 k3 U k5 Z us O;rcases us with _|⟨u,_|⟨v,_|⟨_,_⟩⟩⟩
 ·cases O
 ·cases O
 ·exact h k1 k2 k3 U k5 Z u v
 ·cases O
def bo3 (h:∀(kV doc pm:o7) (an:ot o6) (cdv ct u v w:o7),gU (PySem.W.fnOf x q (YG st) (yZ st) (qj st) .none kV doc pm an cdv ct) [[u,v,w]:[]]=pure [(a,u),(b,v),(c,w)]):BOk x q st [a,b,c]:=by
 intro k1 k2 k3 U k5 Z us O;rcases us with _|⟨u,_|⟨v,_|⟨w,_|⟨_,_⟩⟩⟩⟩
 ·cases O
 ·cases O
 ·cases O
 ·exact h k1 k2 k3 U k5 Z u v w
 ·cases O
def bo4 (h:∀(kV doc pm:o7) (an:ot o6) (cdv ct u v w z:o7),gU (PySem.W.fnOf x q (YG st) (yZ st) (qj st) .none kV doc pm an cdv ct) [[u,v,w,z]:[]]=pure [(a,u),(b,v),(c,w),(d,z)]):BOk x q st [a,b,c,d]:=by
 intro k1 k2 k3 U k5 Z us O;rcases us with _|⟨u,_|⟨v,_|⟨w,_|⟨z,_|⟨_,_⟩⟩⟩⟩⟩
 ·cases O
 ·cases O
 ·cases O
 ·cases O
 ·exact h k1 k2 k3 U k5 Z u v w z
 ·cases O
end
end L2
namespace L2
open PySem PyProof.Rows
nonrec def cl {α β:Type}(t:α->β->TS)(a:α)(b:β):TS:=t a b
section
variable {α β:Type}{t u:α->β->TS}{c:α->β->TT}{wi:α->β->TI}{g:α->β->TG}{a:α}{b:β}{D:mL}{σ:St}{H:Hp}
def cl_i (h:let S:St:=σ;let D1:mL:=D;cl t a b D1 S H):t a b D σ H:=h
def seq_oC (h:let S:St:=σ;let D1:mL:=D;∀N:St->Hp->Prop,(∀O H',cl u a b D1 O H'->N O H')->let E:mL:={D1 with nx:=N};cl t a b E S H):cl (λx y=>ni (t x y) (u x y)) a b D σ H:=h (u a b D) λ_ _ h=>h
def seq_0 (h:let S:St:=σ;let D1:mL:=D;let E:mL:={D1 with nx:=cl u a b D1};cl t a b E S H):cl (λx y=>ni (t x y) (u x y)) a b D σ H:=h
def if_C (h:let S:St:=σ;let D1:mL:=D;c a b S H λk H1=>if k=v_ then cl t a b D1 S H1 else cl u a b D1 S H1):cl (λx y=>Adn (c x y) (t x y) (u x y)) a b D σ H:=h
def while_C (h:let S:St:=σ;let D1:mL:=D;∃W:Nat->St->Hp->Prop,(∃m,W m S H)/\∀m σ H,W m σ H->
 c a b σ H λk H1=>if k=v_ then∃N:St->Hp->Prop,(∀O H',N O H'->∃U,U<m/\W U O H')/\cl t a b {D1 with nx:=N,ct:=N,bk:=D1.nx} σ H1 else D1.nx σ H1):cl (λx y=>LV (c x y) (t x y)) a b D σ H:=h
def for_C (h:let S:St:=σ;let D1:mL:=D;wi a b S H λJ H1=>∃W:Nat->Nat->St->Hp->Prop,(∃m,W 0 m S H1)/\∀i m σ H,W i m σ H->
 (J.stop i H/\D1.nx σ H)∨(J.go i H/\∃N:St->Hp->Prop,(∀O H',N O H'->∃U,U<m/\W (i+1) U O H')/\∀x H',J.yld i H x H'->g a b x σ H' λZ H2=>cl t a b {D1 with nx:=N,ct:=N,bk:=D1.nx} Z H2)):cl (λx y=>Ado (wi x y) (g x y) (t x y)) a b D σ H:=h
end
end L2
namespace L2
open PySem PySem.Spec PySem.W PyProof.Rows
variable {i:Nat}{v:V}{σ:St}{H:Hp}
def gN_ {Q:St->Hp->Prop}(h:Q (σ.set i (u_ v)) H):YV i v σ H Q:=h
section
variable {X:Cx}
nonrec def AdO (t:TE):TE:=λσ H Q=>∃d kvs,H d=u_ (.dK kvs)/\∀o,t σ (upd H d (.frz o (.dK kvs))) Q
def AaB {e:Expr}{t:TE}(h:PE X e t):PE X e (AdO t):=by
 rintro ou s σ H Q I ⟨d,kvs,hd,q⟩;erw[I.holdK hd,_,o,O];exact h ou s σ _ _ O (q o)
end
end L2
namespace L2
open PySem PySem.Spec PySem.W PySem.Calls PyProof.Rows
section
variable {X:Cx}{ou:oq (o6×Obj)}{σ:St}{H:Hp}{s:o9}{a:o6}{kvs:oq (Key×V)}{k:Key}{u r:o7}{v:V}{A:om}{E:o7->o9->Prop}
def LA {Q:o7->o9->Prop}(I:#[I])(e:H a=u_ (.dK kvs))(ry:ik (kV k) u)(rv:ik v r)(hl:↑kvs<V5)(h1:∀O w' s',iJ kvs k=u_ O->Inv X ou σ H s'->ik O w'->Q w' s')
  (h2:iJ kvs k=U_->∀s',Inv X ou σ (upd H a (.dK (lm kvs k v))) s'->Q r s'):V2 #[X,X] A (call (.builtin "dict.setdefault") [.ref a,u,r]) Q E s:=by
 erw[CH I.hok e,z,hd,vs,rel,dd];refine Hi PySem.F.slot_dict_setdefault dd.typeIs PySem.F.entry_dict_setdefault (PySem.F.args_dict_setdefault_3 _ _ _) (kt_meets_setdefault (Ql X.prog X.w) a (Ko ry) hd r) ⟨vs,dd,by rwa[<-↑rel],λw' hw=>?_,λhn h' aa hs=>?_⟩
 ·cases U:iJ kvs k with
  |none=>
   have:=mZ.kX (o:=Vz vs k) (by rw[<-U];exact rel.val k)
   rw[this] at hw;cases hw
  |some O=>
   obtain⟨w2,Z,ac⟩:=mZ.some_of (v:=O) (o:=Vz vs k) (by rw[<-U];exact rel.val k)
   rw[Z] at hw;cases hw;exact h1 O _ _ U (I.tok _) ac
 ·have U:iJ kvs k=none:=by
   cases U:iJ kvs k with
   |none=>rfl
   |some O=>
    obtain⟨w2,Z,_⟩:=mZ.some_of (v:=O) (o:=Vz vs k) (by rw[<-U];exact rel.val k)
    rw[Z] at hn;cases hn
  have ad:↑(lm kvs k v)<=sizeLine:=by have:=QY kvs k v;omega
  have he:∃q,h'.get? a=u_ q:=let⟨q,_,_,hq,_⟩:=aa;[q:hq];exact h2 U _ (ZY I (by rw[e];exact Vr) hs he (wC ad hd (rel.put k rv) aa))
end
inductive PR (ty tx:TE)(σ:St)(Q:VK)(x:V)(H1:Hp):Prop
 |mk (a:Addr)(_:x= .ref a)(_:IsD H1 a)(_:ty σ H1 λy H2=>tx σ H2 λz H3=>∃kvs k,H3 a=u_ (.dK kvs)/\y=kV k/\↑kvs<V5/\(∀v,iJ kvs k=u_ v->Q v H3)/\(iJ kvs k=U_->Q z (upd H3 a (.dK (lm kvs k z)))))
nonrec def Sw (td ty tx:TE):TE:=λσ H Q=>td σ H λx H1=>PR ty tx σ Q x H1
section
variable {X:Cx}{o e f:Expr}{apos cpos:Pos}{td ty tx:TE}
def KF (ho:PE X o td)(he:PE X e ty)(hf:PE X f tx)(m:M2 X o "setdefault" apos e f cpos):PE X (.Call (.Attribute o "setdefault" apos) [e,f] [] cpos) (Sw td ty tx):=by
 exists 2,Q,I,h;refine Tq m.base m.few m.line UK PySem.F.slot_dict_setdefault PySem.F.type_dict_setdefault (thn (ho ou s σ H _ I h) λu s1 zq=>?_);erw[zq,x,H1,I1,rx,a,ex,d,q1];subst ex;obtain rfl:u=V7 a:=rx;erw[EG I1 d,t1,t2,_];exists t1,t2;rw[m.trees];refine U1 rfl (U9 (Uh (thn (he ou s1 σ H1 _ I1 q1) λiv s2 ⟨y,H2,I2,ry,q2⟩=>
  Uh (thn (hf ou s2 σ H2 _ I2 q2) λfv s3 ⟨z,H3,I3,rz,kvs,k,ea,ey,hl,q3,q4⟩=>US ?_))))
 subst ey;exact LA I3 ea ry rz hl (λv0 w' s4 O U Z=>⟨v0,H3,U,Z,q3 v0 O⟩) λO s4 U=>⟨z,_,U,rz,q4 O⟩
end
variable {w:oj}{K:o0}{mg:Str->ot o7}{base:og}{f:o6}{fd:V4}
def FnOk.up0 {P:oh}{CX:CXT}{k:Nat}{ps:oq Str}{sp:Sp}(F:FnOk P w K mg base CX0 k f fd ps sp):FnOk P w K mg base CX k f fd ps sp:=
 ⟨F.len,λA outer s H args us vs Q E O U Z hv h ht=>Um (F.run A outer s H args us vs Q E O U Z hv h ht) λr s' h=>by
  cases r with
  |ok c=>cases c<;>exact h
  |error e=>exact Vk h⟩
end L2
namespace K46
open PySem L2 PyProof.Rows
inductive A5 (p0 p1 p2 p3 p4:Prop):Prop
 |mk (_:p0)(_:p1)(_:p2)(_:p3)(_:p4)
inductive E3 {t0 t1 t2:Type}(p:t0->t1->t2->Prop):Prop
 |mk (x0:t0)(x1:t1)(x2:t2)(h:p x0 x1 x2)
open Builtin.Int (intBits)
nonrec def top (i:Nat):Stmt:=PySem.Challenge.pw_askwright_k46_whole_rings_hold_nothing_u.main.body.getD i (.Pass ⟨(0),(0),(0),(0)⟩)
noncomputable abbrev Z2:Stmt:=top 16
noncomputable abbrev XQ:Stmt:=top 17
noncomputable abbrev Z0:Stmt:=top 18
noncomputable abbrev wG:Stmt:=top 20
noncomputable abbrev yX:Stmt:=top 21
noncomputable abbrev xZ:Stmt:=top 22
noncomputable abbrev ZX:Stmt:=top 28
noncomputable abbrev xL:Stmt:=top 29
noncomputable abbrev Zv:Stmt:=top 30
noncomputable abbrev Jw:Stmt:=top 31
noncomputable abbrev Xd:Stmt:=top 32
noncomputable abbrev zw:Stmt:=top 33
noncomputable abbrev wV:Stmt:=top 34
noncomputable abbrev xR:Stmt:=top 37
noncomputable abbrev xY:Stmt:=top 38
noncomputable abbrev xv:Stmt:=top 39
noncomputable abbrev zA:Stmt:=top 40
noncomputable abbrev zp:Stmt:=top 41
noncomputable abbrev xJ:Stmt:=top 42
noncomputable abbrev Je:Stmt:=top 43
noncomputable abbrev xq:Stmt:=top 44
noncomputable abbrev xI:Stmt:=top 45
noncomputable abbrev X7:Stmt:=top 46
noncomputable abbrev xt:Stmt:=top 47
noncomputable abbrev YW:Stmt:=top 49
noncomputable abbrev Ys:Stmt:=top 50
noncomputable abbrev jf:Stmt:=Qh (top 51) 0
noncomputable abbrev jI:Stmt:=Qh (top 51) 1
noncomputable abbrev Yi:Stmt:=Qh (top 51) 2
noncomputable abbrev YY:Stmt:=Qh (top 51) 3
noncomputable abbrev YR:Stmt:=Qh (top 51) 6
noncomputable abbrev Q5:Stmt:=Qh (top 51) 7
noncomputable abbrev Yt:Stmt:=Qh (top 51) 8
noncomputable abbrev jh:Stmt:=Qh (top 51) 9
noncomputable abbrev yV:Stmt:=top 52
noncomputable abbrev DC:Stmt:=top 53
noncomputable abbrev Jf:Stmt:=Qh (top 55) 0
noncomputable abbrev jD:Stmt:=Qh (top 55) 1
noncomputable abbrev JJ:Stmt:=Qh (top 55) 2
noncomputable abbrev jl:Stmt:=Qh (top 55) 3
noncomputable abbrev Jv:Stmt:=Qh (top 55) 4
noncomputable abbrev Jr:Stmt:=Qh (top 55) 5
noncomputable abbrev yT:Stmt:=Qh (top 56) 0
noncomputable abbrev QN:Stmt:=Qh (top 56) 1
noncomputable abbrev QQ:Stmt:=Qh (top 56) 2
noncomputable abbrev yA:Stmt:=Qh (top 56) 3
noncomputable abbrev yc:Stmt:=Qh (top 56) 4
noncomputable abbrev yf:Stmt:=Qh (top 56) 5
noncomputable abbrev yq:Stmt:=Qh (top 56) 6
noncomputable abbrev yy:Stmt:=Qh (top 56) 7
noncomputable abbrev QM:Stmt:=Qh (top 56) 8
noncomputable abbrev Yj:Stmt:=top 57
noncomputable abbrev ZS:Stmt:=top 58
noncomputable abbrev xl:Stmt:=top 59
noncomputable abbrev Jn:Stmt:=top 60
noncomputable abbrev jE:Stmt:=top 61
noncomputable abbrev Js:Stmt:=top 62
noncomputable abbrev JB:Stmt:=top 63
noncomputable abbrev xD:Stmt:=top 64
noncomputable abbrev jF:Stmt:=top 66
noncomputable abbrev JC:Stmt:=top 67
noncomputable abbrev Y9:Stmt:=top 68
noncomputable abbrev yW:Stmt:=top 69
noncomputable abbrev jM:Stmt:=top 70
noncomputable abbrev xi:Stmt:=top 71
noncomputable abbrev wh:Stmt:=top 72
noncomputable abbrev xo:Stmt:=top 75
noncomputable abbrev Yc:Stmt:=Qh (top 76) 0
noncomputable abbrev jt:Stmt:=Qh (top 76) 1
noncomputable abbrev yd:Stmt:=Qh (top 76) 2
noncomputable abbrev QO:Stmt:=Qh (top 76) 3
noncomputable abbrev jH:Stmt:=top 77
noncomputable abbrev ZF:Stmt:=top 80
noncomputable abbrev zf:Stmt:=top 81
noncomputable abbrev zm:Stmt:=top 82
noncomputable abbrev YS:Stmt:=top 83
noncomputable abbrev Jk:Stmt:=top 84
noncomputable abbrev Yz:Stmt:=top 85
noncomputable abbrev Yo:Stmt:=top 86
noncomputable abbrev Ck:Stmt:=top 87
set_option genInjectivity false in
set_option genSizeOf false in
structure Ad where
 f_is_text:o6
 d_is_text:V4
 f_is_tree:o6
 d_is_tree:V4
 f_is_name:o6
 d_is_name:V4
 f_is_pair:o6
 d_is_pair:V4
 jw:o6
 jy:V4
 ZB:o6
 Z7:V4
 f_part_of:o6
 d_part_of:V4
 ZL:o6
 ZU:V4
 f_row_of:o6
 d_row_of:V4
 zK:o6
 zQ:V4
 ZW:o6
 wL:V4
 WL:o6
 WI:V4
 f_is_rule:o6
 d_is_rule:V4
 xU:o6
 ww:V4
 xV:o6
 wm:V4
 xn:o6
 Z1:V4
 zj:o6
 Wn:V4
 zn:o6
 WR:V4
 xu:o6
 wK:V4
 Jc:o6
 zH:V4
 xr:o6
 wU:V4
 Xc:o6
 ZV:V4
 zd:o6
 WZ:V4
 xB:o6
 wA:V4
 Ju:o6
 Jm:V4
 jP:o6
 jT:V4
 jm:o6
 J0:V4
 XR:o6
 Xu:V4
 Yl:o6
 Yk:V4
 Jz:o6
 JH:V4
 Ji:o6
 Jo:V4
 Yw:o6
 Yv:V4
 jW:o6
 jY:V4
 J3:o6
 J8:V4
 jp:o6
 jo:V4
 f_does:o6
 d_does:V4
 Jx:o6
 zR:V4
 XV:o6
 Xf:V4
 zN:o6
 Ze:V4
 JY:o6
 J6:V4
 Zb:o6
 Zg:V4
 zU:o6
 zW:V4
 yU:o6
 ju:V4
 yx:o6
 yF:V4
 yz:o6
 yu:V4
 Y5:o6
 Y2:V4
 YQ:o6
 YK:V4
 YI:o6
 YZ:V4
 je:o6
 Y1:V4
 jc:o6
 ja:V4
 yp:o6
 yB:V4
 jR:o6
 jV:V4
 f_has_run:o6
 d_has_run:V4
 ZQ:o6
 ZK:V4
 Zh:o6
 Zn:V4
 Xj:o6
 XN:V4
 zO:o6
 zI:V4
 zV:o6
 Zj:V4
 wD:o6
 wj:V4
 Xp:o6
 XX:V4
 Zc:o6
 zY:V4
 zX:o6
 Zd:V4
 jx:o6
 js:V4
 XD:o6
 Xg:V4
 wH:o6
 ZJ:V4
 f_shown:o6
 d_shown:V4
 wY:o6
 ZE:V4
 ji:o6
 xf:V4
 X6:o6
 X5:V4
 YO:o6
 YH:V4
 YJ:o6
 YU:V4
 XH:o6
 X2:V4
 f_law_pot:o6
 d_law_pot:V4
 WU:o6
 WP:V4
 Wp:o6
 WF:V4
 JF:o6
 JG:V4
 Zo:o6
 Zl:V4
 Xe:o6
 XI:V4
 jS:o6
 jX:V4
 f_law:o6
 d_law:V4
 ql:o6
 qJ:o6
 qo:o6
 qG:o6
structure Tx (K:o0)(mg:Str->ot o7)(a:Ad):Prop where
 mI:FF K mg "is_text" Z2 ["value"] a.f_is_text a.d_is_text
 li:FF K mg "is_tree" XQ ["value"] a.f_is_tree a.d_is_tree
 iM:FF K mg "is_name" Z0 ["value"] a.f_is_name a.d_is_name
 nc:FF K mg "is_pair" wG ["value"] a.f_is_pair a.d_is_pair
 lH:FF K mg "is_row_of_names" yX ["tree"] a.jw a.jy
 mR:FF K mg "is_answer" xZ ["ask","answer"] a.ZB a.Z7
 m9:FF K mg "part_of" ZX ["kind","piece","count"] a.f_part_of a.d_part_of
 mO:FF K mg "pieces_of" xL ["line","form"] a.ZL a.ZU
 se:FF K mg "row_of" Zv ["line","count"] a.f_row_of a.d_row_of
 lU:FF K mg "read_lines" Jw ["value"] a.zK a.zQ
 lD:FF K mg "rule_rows" Xd ["tree"] a.ZW a.wL
 mX:FF K mg "bad_line" zw ["tree"] a.WL a.WI
 mJ:FF K mg "is_rule" wV ["value"] a.f_is_rule a.d_is_rule
 lr:FF K mg "text_made" xR ["boxes","own","parts"] a.xU a.ww
 lC:FF K mg "self_made" xY ["boxes","own","parts"] a.xV a.wm
 lK:FF K mg "copy_made" xv ["boxes","own","parts"] a.xn a.Z1
 lT:FF K mg "row_made" zA ["boxes","own","parts"] a.zj a.Wn
 lV:FF K mg "put_made" zp ["boxes","own","parts"] a.zn a.WR
 lG:FF K mg "join_made" xJ ["boxes","own","parts"] a.xu a.wK
 ky:FF K mg "first_made" Je ["boxes","own","parts"] a.Jc a.zH
 lE:FF K mg "rest_made" xq ["boxes","own","parts"] a.xr a.wU
 lz:FF K mg "size_made" xI ["boxes","own","parts"] a.Xc a.ZV
 lX:FF K mg "cut_made" X7 ["boxes","own","parts"] a.zd a.WZ
 lJ:FF K mg "glue_made" xt ["boxes","own","parts"] a.xB a.wA
 lZ:FF K mg "is_jump_taken" YW ["boxes","word","parts"] a.Ju a.Jm
 lQ:FF K mg "asked_or_fault" Ys ["word","held"] a.jP a.jT
 iQ:FM K a.ql "__init__" "Machine.__init__" jf ["self","rule","own"] a.jm a.J0
 iB:FM K a.ql "now" "Machine.now" jI ["self"] a.XR a.Xu
 iD:FM K a.ql "answer" "Machine.answer" Yi ["self","tree"] a.Yl a.Yk
 l6:FM K a.ql "asked" "Machine.asked" YY ["self"] a.Jz a.JH
 iX:FM K a.ql "go_on" "Machine.go_on" YR ["self"] a.Ji a.Jo
 il:FM K a.ql "is_waiting" "Machine.is_waiting" Q5 ["self"] a.Yw a.Yv
 lR:FM K a.ql "do_row" "Machine.do_row" Yt ["self","row"] a.jW a.jY
 mi:FM K a.ql "hold" "Machine.hold" jh ["self","box","tree"] a.J3 a.J8
 iP:FF K mg "asks_that_stand" yV ["machine","asks"] a.jp a.jo
 EO:FF K mg "does" DC ["rule","own","run"] a.f_does a.d_does
 mF:FM K a.qJ "__init__" "Going.__init__" Jf ["self","name","source","order"] a.Jx a.zR
 lO:FM K a.qJ "begin" "Going.begin" jD ["self","rule"] a.XV a.Xf
 lY:FM K a.qJ "look" "Going.look" JJ ["self"] a.zN a.Ze
 mj:FM K a.qJ "wanted" "Going.wanted" jl ["self"] a.JY a.J6
 lc:FM K a.qJ "take" "Going.take" Jv ["self","answer"] a.Zb a.Zg
 mG:FM K a.qJ "full" "Going.full" Jr ["self"] a.zU a.zW
 lL:FM K a.qo "__init__" "PlainOrder.__init__" yT ["self","project"] a.yU a.ju
 iw:FM K a.qo "begin_anew" "PlainOrder.begin_anew" QN ["self","project"] a.yx a.yF
 iN:FM K a.qo "go_through" "PlainOrder.go_through" QQ ["self","name"] a.yz a.yu
 iI:FM K a.qo "enter" "PlainOrder.enter" yA ["self","name"] a.Y5 a.Y2
 iZ:FM K a.qo "settle" "PlainOrder.settle" yc ["self","going"] a.YQ a.YK
 i9:FM K a.qo "runner" "PlainOrder.runner" yf ["self","rule","own"] a.YI a.YZ
 lj:FM K a.qo "leave" "PlainOrder.leave" yq ["self","going"] a.je a.Y1
 ll:FM K a.qo "go_on" "PlainOrder.go_on" yy ["self","going"] a.jc a.ja
 im:FM K a.qo "answer_yet" "PlainOrder.answer_yet" QM ["self","name"] a.yp a.yB
 iC:FF K mg "answer_at_once" Yj ["source"] a.jR a.jV
 mK:FF K mg "has_run" ZS ["source"] a.f_has_run a.d_has_run
 mf:FF K mg "answer_by" xl ["end"] a.ZQ a.ZK
 iA:FF K mg "check_name" Jn ["name"] a.Zh a.Zn
 mt:FF K mg "check_names" jE ["names"] a.Xj a.XN
 mD:FF K mg "order_from" Js ["project","name"] a.zO a.zI
 mB:FF K mg "order_over" JB ["project","names"] a.zV a.Zj
 mS:FF K mg "answer_of" xD ["project","name"] a.wD a.wj
 iH:FF K mg "first_wrong" jF ["project","paper"] a.Xp a.XX
 lW:FF K mg "first_ends" JC ["paper"] a.Zc a.zY
 mz:FF K mg "wrong_word" Y9 ["project","ends","earlier","step"] a.zX a.Zd
 lI:FF K mg "is_right_answer" yW ["project","earlier","ask","answer"] a.jx a.js
 mr:FF K mg "is_full_run" jM ["source","name","asks","end"] a.XD a.Xg
 mQ:FF K mg "is_run_of" xi ["rule","own","asks","end"] a.wH a.ZJ
 iT:FF K mg "shown" wh ["project","paper","name"] a.f_shown a.d_shown
 mP:FF K mg "is_source" xo ["value"] a.wY a.ZE
 mh:FM K a.qG "__init__" "Project.__init__" Yc ["self","sources"] a.ji a.xf
 BJ:FM K a.qG "sources" "Project.sources" jt ["self"] a.X6 a.X5
 ii:FM K a.qG "source_of" "Project.source_of" yd ["self","name"] a.YO a.YH
 iG:FM K a.qG "looked_up" "Project.looked_up" QO ["self","ask"] a.YJ a.YU
 mo:FF K mg "longest_row" jH ["names"] a.XH a.X2
 na:FF K mg "_law_pot" ZF ["cell","salt"] a.f_law_pot a.d_law_pot
 io:FF K mg "_law_take" zf ["pot","many"] a.WU a.WP
 mW:FF K mg "_law_ring" zm ["pot"] a.Wp a.WF
 iV:FF K mg "_law_drawn_row" YS ["steps","pot"] a.JF a.JG
 mE:FF K mg "_law_saying" Jk ["project","nexts","tree"] a.Zo a.Zl
 mq:FF K mg "_law_waiting" Yz ["nexts"] a.Xe a.XI
 iS:FF K mg "_law_none_shown" Yo ["project","paper","nexts"] a.jS a.jX
 BI:FF K mg "law" Ck ["script"] a.f_law a.d_law
 qp:Cls K a.ql
 ZI:Mk K a.ql a.jm
 Zy:mg "Machine"=u_ (.ref a.ql)
 y9:QH K a.ql "rows"
 Wj:QH K a.ql "rule"
 Xi:QH K a.ql "own"
 Qt:QH K a.ql "boxes"
 Qj:QH K a.ql "place"
 Q8:QH K a.ql "done"
 YF:QH K a.ql "given"
 qL:QH K a.ql "there"
 qP:Cls K a.qJ
 M_Going:Mk K a.qJ a.Jx
 m_Going:mg "Going"=u_ (.ref a.qJ)
 Yf:QH K a.qJ "name"
 XT:QH K a.qJ "order"
 yC:QH K a.qJ "made_by"
 yO:QH K a.qJ "rule_asks"
 qT:QH K a.qJ "rule_run"
 QZ:QH K a.qJ "end"
 qy:Cls K a.qo
 M_PlainOrder:Mk K a.qo a.yU
 m_PlainOrder:mg "PlainOrder"=u_ (.ref a.qo)
 Qd:QH K a.qo "given_project"
 Qz:QH K a.qo "stack"
 Qv:QH K a.qo "under_way"
 yI:QH K a.qo "full_runs"
 QB:QH K a.qo "found"
 QS:Cls K a.qG
 M_Project:Mk K a.qG a.ji
 m_Project:mg "Project"=u_ (.ref a.qG)
 Q0:QH K a.qG "by_name"
 m_MOST_SIGNS:∃t,mg "MOST_SIGNS"=u_ (.int 300 t)
 m_MOST_PARTS:∃t,mg "MOST_PARTS"=u_ (.int 40 t)
 m_MOST_SIZE:∃t,mg "MOST_SIZE"=u_ (.int 600 t)
 m_MOST_DEPTH:∃t,mg "MOST_DEPTH"=u_ (.int 12 t)
 zy:∃t,mg "MOST_NAME_SIGNS"=u_ (.int 24 t)
 m_LETTERS:∃t,mg "LETTERS"=u_ (.str "abcdefghijklmnopqrstuvwxyz" t)
 m_NAME_SIGNS:∃t,mg "NAME_SIGNS"=u_ (.str "abcdefghijklmnopqrstuvwxyz0123456789./" t)
 m_PERCENT:∃t,mg "PERCENT"=u_ (.int 37 t)
 m_MOST_LINES:∃t,mg "MOST_LINES"=u_ (.int 40 t)
 m_MOST_DONE:∃t,mg "MOST_DONE"=u_ (.int 300 t)
 m_MOST_NAMES:∃t,mg "MOST_NAMES"=u_ (.int 60 t)
 z_ord:mg "ord"=U_
 Yg:mg "len"=U_
 qS:mg "isinstance"=U_
 zx:mg "str"=U_
 QP:mg "tuple"=U_
 z_all:mg "all"=U_
 z_int:mg "int"=U_
 xy:mg "range"=U_
 z_zip:mg "zip"=U_
 z_dict:mg "dict"=U_
 ZN:mg "enumerate"=U_
 z_sorted:mg "sorted"=U_
 z_abs:mg "abs"=U_
 z_list:mg "list"=U_
 z_sum:mg "sum"=U_
def WN:qt ["value","sign"] ["value"] (qj Z2):=by trivial
def yj:qt ["value","size","waiting","pair","part","depth"] ["value"] (qj XQ):=by trivial
def Ci:qt ["value"] ["value"] (qj Z0):=by trivial
def Cg:qt ["value"] ["value"] (qj wG):=by trivial
def XW:qt ["tree"] ["tree"] (qj yX):=by trivial
def nR:qt ["ask","answer"] ["ask","answer"] (qj xZ):=by trivial
def WD:qt ["kind","piece","count","numbers"] ["kind","piece","count"] (qj ZX):=by trivial
def nP:qt ["line","form"] ["line","form"] (qj xL):=by trivial
def JA:qt ["line","count","word","form","pieces","parts"] ["line","count"] (qj Zv):=by trivial
def YD:qt ["value","rows","line","row"] ["value"] (qj Jw):=by trivial
def zS:qt ["tree","read"] ["tree"] (qj Xd):=by trivial
def sZ:qt ["tree"] ["tree"] (qj zw):=by trivial
def Cf:qt ["value"] ["value"] (qj wV):=by trivial
def nK:qt ["boxes","own","parts"] ["boxes","own","parts"] (qj xR):=by trivial
def nO:qt ["boxes","own","parts"] ["boxes","own","parts"] (qj xY):=by trivial
def nS:qt ["boxes","own","parts"] ["boxes","own","parts"] (qj xv):=by trivial
def sY:qt ["boxes","own","parts"] ["boxes","own","parts"] (qj zA):=by trivial
def ZC:qt ["boxes","own","parts","row"] ["boxes","own","parts"] (qj zp):=by trivial
def Ja:qt ["boxes","own","parts","one","other"] ["boxes","own","parts"] (qj xJ):=by trivial
def XS:qt ["boxes","own","parts","whole"] ["boxes","own","parts"] (qj Je):=by trivial
def Zk:qt ["boxes","own","parts","whole"] ["boxes","own","parts"] (qj xq):=by trivial
def nN:qt ["boxes","own","parts"] ["boxes","own","parts"] (qj xI):=by trivial
def xj:qt ["boxes","own","parts","whole","between"] ["boxes","own","parts"] (qj X7):=by trivial
def Jj:qt ["boxes","own","parts","row","between"] ["boxes","own","parts"] (qj xt):=by trivial
def Zs:qt ["boxes","word","parts"] ["boxes","word","parts"] (qj YW):=by trivial
def zu:qt ["word","held"] ["word","held"] (qj Ys):=by trivial
def ZG:qt ["self","rule","own"] ["self","rule","own"] (qj jf):=by trivial
def Wc:qt ["self"] ["self"] (qj jI):=by trivial
def jA:qt ["self","tree","ask"] ["self","tree"] (qj Yi):=by trivial
def Zr:qt ["self"] ["self"] (qj YY):=by trivial
def Zp:qt ["self"] ["self"] (qj YR):=by trivial
def Jb:qt ["self"] ["self"] (qj Q5):=by trivial
def y8:qt ["self","row","word","parts"] ["self","row"] (qj Yt):=by trivial
def wF:qt ["self","box","tree"] ["self","box","tree"] (qj jh):=by trivial
def yr:qt ["machine","asks","count","pair"] ["machine","asks"] (qj yV):=by trivial
def Dz:qt ["rule","own","run","machine"] ["rule","own","run"] (qj DC):=by trivial
def ki:qt ["self","name","source","order"] ["self","name","source","order"] (qj Jf):=by trivial
def Wf:qt ["self","rule"] ["self","rule"] (qj jD):=by trivial
def kU:qt ["self"] ["self"] (qj JJ):=by trivial
def wN:qt ["self"] ["self"] (qj jl):=by trivial
def ke:qt ["self","answer"] ["self","answer"] (qj Jv):=by trivial
def XO:qt ["self","asks"] ["self"] (qj Jr):=by trivial
def XF:qt ["self","project"] ["self","project"] (qj yT):=by trivial
def jq:qt ["self","project"] ["self","project"] (qj QN):=by trivial
def QJ:qt ["self","name","top","missing"] ["self","name"] (qj QQ):=by trivial
def xh:qt ["self","name"] ["self","name"] (qj yA):=by trivial
def JX:qt ["self","going"] ["self","going"] (qj yc):=by trivial
def JV:qt ["self","rule","own"] ["self","rule","own"] (qj yf):=by trivial
def xO:qt ["self","going"] ["self","going"] (qj yq):=by trivial
def yh:qt ["self","going","ask","answer"] ["self","going"] (qj yy):=by trivial
def ym:qt ["self","name","at_once"] ["self","name"] (qj QM):=by trivial
def ze:qt ["source"] ["source"] (qj Yj):=by trivial
def Cj:qt ["source"] ["source"] (qj ZS):=by trivial
def nU:qt ["end"] ["end"] (qj xl):=by trivial
def Kh:qt ["name"] ["name"] (qj Jn):=by trivial
def J9:qt ["names","name"] ["names"] (qj jE):=by trivial
def Ki:qt ["project","name"] ["project","name"] (qj Js):=by trivial
def jC:qt ["project","names","order","name"] ["project","names"] (qj JB):=by trivial
def nT:qt ["project","name"] ["project","name"] (qj xD):=by trivial
def QU:qt ["project","paper","ends","earlier","place","step","word"] ["project","paper"] (qj jF):=by trivial
def yG:qt ["paper","ends","name","asks","end"] ["paper"] (qj JC):=by trivial
def YB:qt ["project","ends","earlier","step","name","end","source"] ["project","ends","earlier","step"] (qj Y9):=by trivial
def Y0:qt ["project","earlier","ask","answer","source"] ["project","earlier","ask","answer"] (qj yW):=by trivial
def Yd:qt ["source","name","asks","end","rule"] ["source","name","asks","end"] (qj jM):=by trivial
def zG:qt ["rule","own","asks","end","machine"] ["rule","own","asks","end"] (qj xi):=by trivial
def AZ:qt ["project","paper","name","ends"] ["project","paper","name"] (qj wh):=by trivial
def nQ:qt ["value"] ["value"] (qj xo):=by trivial
def yH:qt ["self","sources","by_name","name","source"] ["self","sources"] (qj Yc):=by trivial
def JT:qt ["self","name"] ["self","name"] (qj yd):=by trivial
def JS:qt ["self","ask"] ["self","ask"] (qj QO):=by trivial
def Yb:qt ["names","row","name"] ["names"] (qj jH):=by trivial
def YE:qt ["cell","salt","step","big","k"] ["cell","salt"] (qj ZF):=by trivial
def ZM:qt ["pot","many","digit"] ["pot","many"] (qj zf):=by trivial
def Qo:qt ["pot","many","names","ways_in","nexts","pairs","k","name","source"] ["pot"] (qj zm):=by trivial
def Ym:qt ["steps","pot","left","found"] ["steps","pot"] (qj YS):=by trivial
def YA:qt ["project","nexts","tree","steps","name","kind"] ["project","nexts","tree"] (qj Jk):=by trivial
def Wh:qt ["nexts"] ["nexts"] (qj Yz):=by trivial
def yQ:qt ["project","paper","nexts","name","found"] ["project","paper","nexts"] (qj Yo):=by trivial
def yL:qt ["script","pot","pairs","nexts","ring","project","beside","waiting","tree","saying","turn","row","name","at","fewer","other","paper","waits"] ["script"] (qj Ck):=by trivial
structure Ga where
 (boxes asking forms makers br bn ba we:o6)
nonrec def AbL:oq Str:= ["ask","has","names","go","like","rowed","none","say","fault"]
structure Fx (K:o0)(w:oj)(mg:Str->ot o7)(g:Ga)(a:Ad):Prop where
 m_BOXES:mg "BOXES"=u_ (.ref g.boxes)
 m_ASKING:mg "ASKING"=u_ (.ref g.asking)
 m_FORMS:mg "FORMS"=u_ (.ref g.forms)
 m_MAKERS:mg "MAKERS"=u_ (.ref g.makers)
 boxes:∀H,SqT K H g.boxes (BX.map V.str)
 asking:∀H,SqT K H g.asking [.str "ask",.str "has",.str "names"]
 kd:Ix K w g.forms
 forms:∀x∈FRM,∃q,PySem.W.nsIn K g.forms x.1=u_ (u_ (.ref q))/\∀H,SqT K H q (x.2.map λk=>V.str k.t)
 km:Ix K w g.makers
 k_text:PySem.W.nsIn K g.makers "text"=u_ (u_ (.ref a.xU))
 k_self:PySem.W.nsIn K g.makers "self"=u_ (u_ (.ref a.xV))
 k_copy:PySem.W.nsIn K g.makers "copy"=u_ (u_ (.ref a.xn))
 k_row:PySem.W.nsIn K g.makers "row"=u_ (u_ (.ref a.zj))
 k_put:PySem.W.nsIn K g.makers "put"=u_ (u_ (.ref a.zn))
 k_join:PySem.W.nsIn K g.makers "join"=u_ (u_ (.ref a.xu))
 k_first:PySem.W.nsIn K g.makers "first"=u_ (u_ (.ref a.Jc))
 k_rest:PySem.W.nsIn K g.makers "rest"=u_ (u_ (.ref a.xr))
 k_size:PySem.W.nsIn K g.makers "size"=u_ (u_ (.ref a.Xc))
 k_cut:PySem.W.nsIn K g.makers "cut"=u_ (u_ (.ref a.zd))
 k_glue:PySem.W.nsIn K g.makers "glue"=u_ (u_ (.ref a.xB))
 k_no:∀z∈AbL,PySem.W.nsIn K g.makers z=u_ U_
 none_:∀z,JZ z=U_->PySem.W.nsIn K g.forms z=u_ U_
 m_BadRule:mg "BadRule"=u_ (.ref g.br)
 x_BadRule:PySem.W.excIn K g.br VE "ValueError.__new__"=v_
 m_BadName:mg "BadName"=u_ (.ref g.bn)
 x_BadName:PySem.W.excIn K g.bn VE "ValueError.__new__"=v_
 m_BadAnswer:mg "BadAnswer"=u_ (.ref g.ba)
 e_BadAnswer:PySem.W.exmOne K (.ref g.ba) (.ref g.ba)=u_ v_
 m_WrightError:mg "WrightError"=u_ (.ref g.we)
 ew:PySem.W.exmOne K (.ref g.bn) (.ref g.we)=u_ v_
 xc:AwV.ExcCls K g.bn
variable {n:Nat}
def Ye (h:n<=1000):n<=sizeLine:=UW (X0 h)
def sml (h:Nat.ble n 1000=v_):n<=sizeLine:=Ye (Nat.le_of_ble_eq_true h)
def CT (h:n<=16000000):n<=sizeLine:=by rw[uE];omega
variable {z:Str}
def Ap (h:300<↑z):Q3 z=false:=by
 unfold Q3;rw[ug ()]
 rfl
nonrec def Lm:D->Bool
 | .str z=>Q3 z
 |_=>V1
inductive WB:Sp
 |mk (v:_)(d:_)(_:vs= [v])(_:Is H d v)(_:Q (.bl (Lm d)) H)
inductive WV:Sp
 |mk (v:_)(d:_)(_:vs= [v])(_:Is H d v)(_:∀H',ig H H'->Q (.bl (isT d)) H')
nonrec def pr (p:D×Nat):D:= .tup [p.1,.int (p.2:Int)]
variable {i:Nat}
def Ct {c:Nat}(h:z.cps[i]? =u_ c)(O:QV c=V1):Q3 z=false:=by
 unfold Q3;have hm:c∈z.cps.toList:=by
  have:z.cps.toList[i]? =u_ c:=by simpa using h
  exact uN this
 have:z.cps.toList.all QV=false:=by
  rw[List.all_eq_false];exact⟨c,hm,by rw[O];exact ub⟩
 rw[this,T0]
section
variable {P:oh}{w:oj}{K:o0}{mg:Str->ot o7}{base:og}{a:Ad}
def Wu:#[T,1,a.f_is_text,a.d_is_text,["value"],WB]:=by
 exists 9,T.mI,WN
 erw[h,v,d,rfl,hv,k];exists 3,%[@qM _ _ _ _ _ _ _ _ #[JU,#[Qm,#[qZ,#[qD,#[qV,2,rfl],T.qS,ve,#v[pv 0,#[Q4,.ty "str",T.zx,Uz]]]]],#[Y3,#[qr,oE,#[qD,zZ,T.Yg,uQ,#v[pv 0]],#[kJ,T.m_MOST_SIGNS]]]].pt %[|#[qq,YM]] qv,#[yJ,#[Mf,4,pv 0],#[qN,(1),WN.nd],%[|@qM _ _ _ _ _ _ _ _ #[JU,#[qr,DV,pv 1,qm],#[JU,#[qr,DY,pv 1,qm],#[Y3,#[qr,QW,#[qD,LE,T.z_ord,boot_ord,#v[pv 1]],#[kJ,T.m_PERCENT]]]]].pt %[|#[qq,YM]] qv]]|#[qq,YM]]
 exists 0,v,"str",tyD d,isStr d,1,hv.ty,jK d,0;cases d with
 |str z=>
  erw[hv,rfl,hz];refine iU ?_
  exists 0,z,1,hz,_,0,1,0;refine nj (λc=>?_) (λc=>?_)
  ·have c':(300:Int)<(↑z:Int):=uq c;have e:Lm (.str z)=false:=Ap ()
   rwa[e] at k
  ·have c':¬(300:Int)<(↑z:Int):=λq=>c (uh q)
   exists 0,z,1
   let J1_:Nat->L2.St->Hp->Prop:=λi σ H'=>(∃x,σ= [u_ (.str z),x])/\H'=H/\(z.cps.toList.take i).all QV=v_
   refine Pi J1_ [⟨0⟩:1:1] ?_ ?_
   ·rintro i c σ H' hc ⟨⟨x,rfl⟩,rfl,O⟩;have bad:QV c=V1->Q (.bl V1) H':=λe=>by
     have e':Lm (.str z)=false:=Ct hc e;rwa[e'] at k
    exists 0,_,0,1,0;rw[show decide ((⟨#[c]⟩:Str).cps.toList<(" ":Str).cps.toList)=decide (c<32) from AaX c 32]
    refine nj (λZ=>?_) (λZ=>?_)
    ·refine lq (bad ?_);have:=uq Z;unfold QV;rw[ug ()]
     rfl
    ·have aa:¬c<32:=λq=>Z (uh q)
     exists 0,_,0,1,0;rw[show decide (("~":Str).cps.toList<(⟨#[c]⟩:Str).cps.toList)=decide (126<c) from AaJ c 126]
     refine nj (λc2=>?_) (λc2=>?_)
     ·refine lq (bad ?_);have:=uq c2;unfold QV;rw[ug (p:=c<=126) (),T0]
      rfl
     ·have ac:¬126<c:=λq=>c2 (uh q)
      exists 0,0,1,1,0;refine nj (λc3=>?_) (λc3=>?_)
      ·have U:c=37:=by
        have:=uq c3;have:=V.int.inj this;exact pF this
       exact bad (by subst U;rfl)
      ·have U:c≠37:=λq=>c3 (uh (by rw[q];rfl))
       exists ⟨0⟩,1;rw[vc,show z.cps.toList[i]? =u_ c by simpa using hc,Tp,O]
       show(v_&&(QV c&&v_))=v_;unfold QV;rw[uh (),uh (p:=c<=126) (),uh U]
       rfl
   ·rintro σ H' ⟨⟨x,rfl⟩,rfl,O⟩;have e:Lm (.str z)=true:=by
     show Q3 z=v_;unfold Q3;rw[vf (by simp)] at O
     rw[O,uh ()]
     rfl
    rwa[e] at k
 |_=>exact lq (lq k)
def Bz {α β:Type}(f:α->β)(xs:oq α)(x:α):(xs++ [x]).map f=xs.map f++ [f x]:=by simp
def O3 {α:Type}(us:oq α)(x:α):(us++ [x])[↑(us++ [x])-1]? =u_ x:=by simp
def E9 {α:Type}(us:oq α)(x:α):(us++ [x]).dropLast=us:=by simp
nonrec def Wt (v:V)(d:D)(H:Hp)(L:o6)(m:Nat)(σ:L2.St)(H':Hp):Prop:=
 ∃(n:Nat) (w:oq (D×Nat)) (ws:oq V) (x3 x4 x5:ot V),σ= [u_ v,u_ (.int n),u_ (.ref L),x3,x4,x5]/\ig H H'/\H' L=u_ (.lst ws)/\IsL H' (w.map pr) ws/\G w n=isT d/\n<=600/\↑w<=1+40*n/\m=ndL (w.map (·.1))
def jv:#[T,2,a.f_is_tree,a.d_is_tree,["value"],WV]:=by
 have wx:=#[Wu,T];refine T.li.F.ok yj () (λ_ _ _ _ H vs Q E hr h=>?_)
 erw[h,v,d,rfl,hv,k];exists 3,%[#[qH,(1),yj.nd,qk],#[qH,(2),yj.nd,#[Y4,#v[#[qz,#v[pv 0,qk]]]]],#[Xr,#[Bi,3,pv 2,(λ_=>rfl)],%[#[qH,(3),yj.nd,#[Mg,9,vb,PySem.F.slot_list_pop,PySem.F.type_list_pop,Mr,pv 2,_,_]],#[qH,(4),yj.nd,#[qF,qA,pv 3]],#[qH,2,(5),4,yj.nd,rfl,VU rfl,#[qF,qA,pv 3],_,_],@qM _ _ _ _ _ _ _ _ #[Bh,7,#[qZ,#[qD,#[qV,2,rfl],T.qS,ve,#v[pv 4,#[Q4,.ty "tuple",T.QP,vw]]]],#[ku,4,#[qr,DW,#[qD,kG,T.Yg,uQ,#v[pv 4]],#[kJ,T.m_MOST_PARTS]]]].pt %[#[Ma,2,(1),6,yj.nd,rfl,Hv rfl,qk,Mz,_]|#[qY,#[XY,vb,PySem.F.slot_list_extend,PySem.F.type_list_extend,Ep,pv 2,#v[#[wB,["below","depth"],(1),[5],Lk (qj XQ) ["value","size","waiting","pair","part","depth"],#[wc,pv 4],(λ_ _ _ _ _ _=>#[qN,(0),(show Vi (["below","depth"]:oq Str) by decide+kernel)]),(λ_ _ _ _ _ _=> @yS _),(λ_ _ _ _ _ _=>#[qz,#v[pv 0,#[QC,Yy,pv 1,qk]]])]]]]] %[|#[qM,#[qZ,#[qu,wx,hr.mono (),T.mI,#v[pv 4]]],%[|#[Ma,2,(1),6,yj.nd,rfl,Hv rfl,#[QC,Yy,qk,#[qD,kG,T.Yg,uQ,#v[pv 4]]],Mz,_]],%[|#[qq,YM]]]]|@qM _ _ _ _ _ _ _ _ #[JU,#[qr,oE,pv 5,#[kJ,T.m_MOST_DEPTH]],#[Y3,#[qr,oE,pv 1,#[kJ,T.m_MOST_SIZE]]]].pt %[|#[qq,YM]] qv]]|#[qq,YM]]
 have no:∀{H':Hp}{w:oq (D×Nat)}{n:Nat},ig H H'->G w n=isT d->G w n=V1->Q (.bl V1) H':=λ{H' w n} sm e1 e2=>by
  have q:=k H' sm;rwa[<-e1,e2] at q
 exists 0,(sml rfl),λt1 h1=>[(sml rfl):λL hL=>?_];have s1:ig H (upd H t1 (.tup [v,.int 1])):=qf h1 _;have s2:ig H (upd (upd H t1 (.tup [v,.int 1])) L (.lst [.ref t1])):=s1.trans (qf hL _);have ak:H L=none:=s1.free hL;have i1:Is (upd H t1 (.tup [v,.int 1])) (pr (d,1)) (.ref t1):=Is.new (ds:= [d,.int 1]) ⟨v,0,hv,_,0,1,1⟩ h1
 exists Wt v d H L,⟨_,(0),[(d,1)],[.ref t1],U_,U_,U_,1,s2,qg,IsL.one (i1.mono (qf hL _).tk),PX d,(),by simp,1⟩
 rintro m σ H' ⟨n,w,ws,x3,x4,x5,rfl,sm,hl,hw,hG,hn,am,rfl⟩
 exists 0,!ws.isEmpty,.inl [ws:SqL.of hl:1];rcases Fq w with rfl|⟨w',⟨e,j⟩,rfl⟩
 ·cases(show ws= [] from hw)
  refine iU ?_;have q:=k H' sm;rwa[<-hG,Adj hn] at q
 ·rw[RJ] at*;rw[Bz] at hw;erw[hw.unsnoc,us,x,rfl,hu,hx];have ne:(!(us++ [x]).isEmpty)=true:=by simp
  rw[ne];refine lq ⟨λσ' ao=>∃m',m'<ndL ((w'++ [(e,j)]).map (·.1))/\Wt v d H L m' σ' ao,λ_ _ h=>h,?_⟩;have hm:ndL ((w'++ [(e,j)]).map (·.1))=ndL (w'.map (·.1))+nd e:=by
   rw[Bz,X9];simp[ndL]
  have aq:↑w'<=40*n:=by
   rw[uJ,Up] at am;omega
  have lu:=↑hu;rw[u9] at lu
  exists 0,.inl [1:_:SqL.of hl],L,_,x,1,1,hl,O3 us x;rw[E9];have t2:Tk H' (upd H' L (.lst us)):=Tk.updL hl;have O:ig H (upd H' L (.lst us)):=λb o z=>by rw[qh (qi z ak)];exact sm b o z
  have ae:Is (upd H' L (.lst us)) (.tup [e,.int (j:Int)]) x:=hx.mono t2;have af:IsL (upd H' L (.lst us)) (w'.map pr) us:=hu.mono t2;have U:upd H' L (.lst us) L=u_ (.lst us):=qg;generalize upd H' L (.lst us)=H2 at t2 O ae af U⊢;clear t2 hl hx hu sm
  exists 0,xG (i:=0) ae rfl λy hy=>?_
  exists 0,xG (i:=1) ae rfl λy1 ap=>?_;cases(show y1= .int (j:Int) from ap)
  show ni _ _ _ _ H2;refine qw λN0 n0=>n0 _ _ ?_;exists 8,BB,bb;have ad:∀(n':Nat) (w2:oq (D×Nat)) (aa:oq V) (H3:Hp),ig H H3->H3 L=u_ (.lst aa)->IsL H3 (w2.map pr) aa->(j<=12->n'<=600->G w2 n'=isT d)->(12<j∨600<n'->isT d=V1)->↑w2<=1+40*n'->ndL (w2.map (·.1))<ndL ((w'++ [(e,j)]).map (·.1))->
    BB [u_ v,u_ (V.int (n':Int)),u_ (V.ref L),u_ x,u_ y,u_ (V.int (j:Int))] H3:=by
   intro n' w2 aa H3 s3 l3 i3 g3 b3 al m3;have bad:isT d=V1->Q (.bl V1) H3:=λe=>by
    have q:=k H3 s3;rwa[e] at q
   refine bb _ _ ?_
   exists 0,_,0,1,0;refine nj (λc=>lq (bad (b3 (.inl ?_)))) (λc=>⟨0,_,0,1,0,?_⟩)
   ·have:=uq c;omega
   ·have c':¬(12:Int)<(j:Int):=λq=>c (uh q);refine nj (λc2=>bad (b3 (.inr ?_))) (λc2=>?_)
    ·have:=uq c2;omega
    ·have au:¬(600:Int)<(n':Int):=λq=>c2 (uh q);exact⟨_,m3,n',w2,aa,_,_,0,s3,l3,i3,g3 () (),(),al,1⟩
  exists 0,y,"tuple",tyD e,zC e,1,hy.ty,xz e,0;cases e with
  |tup xs=>
   refine lq ?_;erw[hy,a0,vs,rfl,ac,ag];have lv:=↑ag
   exists 0,_,↑vs,1,.inr [vs:SqT.of ac:1],_,0,1,0;refine nj (λc=>?_) (λc=>?_)
   ·have c':(↑vs:Int)<=40:=uq c
    exists 0,_,0,1
    exists 0,.inl [1:_:SqL.of U],0,a0,vs,1,SqT.of ac,λaw A0 ah=>?_;refine Au (tl:= [u_ (.int (j:Int))]) (λZ=> .tup [Z,.int ((j+1:Nat):Int)]) ac ag (CT ()) ah (λZ x0 H3 R _ s3 i3 r=>?_) λH3 ys s3 l3 i3=>?_
    ·exists 0,0,_,0,1,(sml rfl),λp hp=>?_;exact r _ _ (qf hp _) (Is.new (ds:= [Z,.int ((j+1:Nat):Int)]) ⟨x0,0,i3,_,0,1,1⟩ hp)
    ·have ly:=↑i3;rw[u9] at ly;have eA:A0≠L:=λz=>by rw[z,U] at ah;cases ah
     exists L,A0,us,ys,1,1,s3 _ _ U,l3,CT ()
     have t4:Tk H3 (upd H3 L (.lst (us++ys))):=Tk.updL (s3 _ _ U);have em:(w'++xs.map λZ=>(Z,j+1)).map pr=w'.map pr++xs.map λZ=> .tup [Z,.int ((j+1:Nat):Int)]:=by
      rw[um,uO];rfl
     have ef:(w'++xs.map λZ=>(Z,j+1)).map (·.1)=w'.map (·.1)++xs:=by
      rw[um,uO]
      congr 1
      exact GM xs
     refine ad (n+1) (w'++xs.map λZ=>(Z,j+1)) (us++ys) _ (λb o z=>by rw[qh (qi z ak)];exact s3 b o (O b o z)) qg (by rw[em];exact((af.mono s3.tk).mono t4).append (i3.mono t4)) (λh1 h2=>?_) (λh=>?_) ?_ ?_
     ·rw[<-hG,Adh () h1]
     ·rw[<-hG];rcases h with h|h
      ·exact MQ h
      ·exact AbW h
     ·rw[uJ,u9];omega
     ·rw[ef,hm,X9];simp![nd];omega
   ·have c':¬(↑vs:Int)<=40:=λq=>c (uh q)
    exists 0,_,.tup xs,1,(show Is _ (.tup xs) (.ref a0) from⟨a0,vs,1,ac,ag⟩),0
    refine iU ?_;refine no O hG (PY ?_);simp![lp];rw[ug ()]
    rfl
  |str z=>
   refine iU ?_;erw[hy,rfl,hz]
   exists 0,_,.str z,1,[1:hz],0;cases ht:Q3 z with
   |false=>
    have e1:Lm (.str z)=false:=ht;rw[e1];refine iU ?_;refine no O hG (PY ?_);simp![lp];exact ht
   |true=>
    have e1:Lm (.str z)=true:=ht;rw[e1];refine lq ?_
    exists 0,0,_,↑z,1,[hz:1],_,0,1,_,0,1;have en:(n:Int)+(1+(↑z:Int))=((n+(1+↑z):Nat):Int):=by omega
    show BB [u_ v,u_ (V.int ((n:Int)+(1+(↑z:Int)))),u_ (V.ref L),u_ x,u_ (V.str z),u_ (V.int (j:Int))] _;rw[en];refine ad (n+(1+↑z)) w' us _ O U af (λh1 h2=>?_) (λh=>?_) () (by rw[hm];simp![nd];omega)
    ·rw[<-hG,Adi ht h1]
    ·rw[<-hG];rcases h with h|h
     ·exact MQ h
     ·refine AbX ?_;simp![sz];omega
  |_=>
   refine iU ?_
   exact⟨0,_,0,hy,0,iU (no O hG (PY rfl))⟩
nonrec def LET:Str:="abcdefghijklmnopqrstuvwxyz"
nonrec def NSG:Str:="abcdefghijklmnopqrstuvwxyz0123456789./"
nonrec def nm (z:Str):Bool:=decide (1<=(↑z:Int))&&decide ((↑z:Int)<=24)&&inS ⟨#[z.cps.getD 0 0]⟩ LET&&(z.cps.toList.map λc=>inS ⟨#[c]⟩ NSG).all id
nonrec def my:D->Bool
 | .str z=>nm z
 |_=>V1
inductive Nq:Sp
 |mk (v:_)(d:_)(_:vs= [v])(_:Is H d v)(_:∀H',ig H H'->Q (.bl (my d)) H')
def BM (h:1<=↑z):atI z.cps.toList 0=u_ (z.cps.getD 0 0):=by
 have h':0<z.cps.size:=h;have q:z.cps.toList[0]? =u_ (z.cps.getD 0 0):=by simp[Array.getD,h']
 exact qC q
def AbG (z:Str):(z.cps.toList.map λc=>V.bl (inS ⟨#[c]⟩ NSG))=(z.cps.toList.map λc=>inS ⟨#[c]⟩ NSG).map V.bl:=by
 rw[uO]
 rfl
def Bx (h:¬(1<=(↑z:Int)/\(↑z:Int)<=24)):nm z=false:=by
 unfold nm;by_cases h1:1<=(↑z:Int)
 ·have h2:¬(↑z:Int)<=24:=λq=>h [h1:q];rw[ug h2];simp
 ·rw[ug h1];simp
def By (h:inS ⟨#[z.cps.getD 0 0]⟩ LET=V1):nm z=false:=by
 unfold nm;rw[h];simp
def Ei (h1:1<=(↑z:Int))(h2:(↑z:Int)<=24)(h:inS ⟨#[z.cps.getD 0 0]⟩ LET=v_):nm z=(z.cps.toList.map λc=>inS ⟨#[c]⟩ NSG).all id:=by
 unfold nm;rw[h,uh h1,uh h2];simp
def xw:#[T,1,a.f_is_name,a.d_is_name,["value"],Nq]:=by
 exists 9,T.iM,Ci
 erw[h,x,d,rfl,hv,k];exists 3,%[@qM _ _ _ _ _ _ _ _ #[JU,#[Qm,#[qZ,#[qD,#[qV,2,rfl],T.qS,ve,#v[pv 0,#[Q4,.ty "str",T.zx,Uz]]]]],#[Y3,#[Qm,#[Bj,12,DW,DW,qk,#[qD,zZ,T.Yg,uQ,#v[pv 0]],#[kJ,T.zy],_]]]].pt %[|#[qq,YM]] qv,#[qM,#[qr,8,oz,#[qF,Mw,pv 0],#[AaA,4,_,T.m_LETTERS,_],#[w]],%[|#[qq,YM]],qv]|#[qq,#[qD,#[Xn,1,rfl],T.z_all,Hg,#v[#[wB,["sign"],(1),[],OZ,#[Mf,4,pv 0],(λ_ _ _ _ _ _=>#[qN,(0),(show Vi (["sign"]:oq Str) by decide+kernel)]),(λ_ _ _ _ _ _=> @yS _),(λ_ _ _ _ _ _=>#[Qg,8,DX,pv 0,#[AaA,4,_,T.m_NAME_SIGNS,_],#[w]])]]]]]
 exists 0,x,"str",tyD d,isStr d,1,hv.ty,jK d,0;cases hd:isStr d with
 |false=>
  refine lq (lq ?_);have:=k H (ig.refl H);have e:my d=false:=by cases d<;>first|rfl|simp[isStr] at hd
  rwa[e] at this
 |true=>
  obtain⟨z,rfl⟩:∃z,d= .str z:=by cases d<;>simp[isStr] at hd;exact⟨0⟩
  erw[hv,rfl,hz];have k:∀H',ig H H'->Q (.bl (nm z)) H':=k;refine iU ?_
  exists 0,z,1,hz,_,0,1,0;have stop:nm z=V1->Q (.bl V1) H:=λe=>by
   have:=k H (ig.refl H);rwa[e] at this
  refine nj (λU=>?_) (λU=>?_)
  ·have Z:1<=(↑z:Int):=uq U
   exists _,0,1,0;by_cases O:(↑z:Int)<=24
   ·rw[uh O];refine iU ?_
    exists 0,_,_,0,1,hz,BM (),_,0,1,0
    cases e:inS ⟨#[z.cps.getD 0 0]⟩ LET with
    |false=>
     have e':(!(GH ("abcdefghijklmnopqrstuvwxyz":Str) ⟨#[z.cps.getD 0 0]⟩ 0 ("abcdefghijklmnopqrstuvwxyz":Str).length 1).isEmpty)=false:=e;rw[e'];refine lq ?_;exact stop (By e)
    |true=>
     have e':(!(GH ("abcdefghijklmnopqrstuvwxyz":Str) ⟨#[z.cps.getD 0 0]⟩ 0 ("abcdefghijklmnopqrstuvwxyz":Str).length 1).isEmpty)=true:=e;rw[e'];refine iU ?_
     exists 0,z,1,λD hD=>?_;refine Aa2 (λc=> .bl (inS ⟨#[c]⟩ NSG)) (hz) hD (λi c H' R hc sm r=>⟨0,_,0,1,r⟩) λH' sm hl=>?_
     exists D,z.cps.toList.map λc=>inS ⟨#[c]⟩ NSG,1,SqL.of (by rw[hl,AbG])
     have:=k H' sm;rwa[Ei Z O e] at this
   ·rw[ug O];refine lq ?_;exact stop (Bx λq=>O q.2)
  ·exists 0;refine lq ?_;exact stop (Bx λq=>U (uh q.1))
end
nonrec def P9:ot Pt->D
 |none=> .non
 |some p=>p.d
inductive Nl:Sp
 |mk (n:Nat)(kd:Kd)(z:Str)(_:vs= [.str kd.t,.str z,.int (n:Int)])(_:n<=40)(_:↑z<=300)(_:∀(v:V)(H':Hp),ig H H'->Is H' (P9 (Yh n kd z)) v->Q v H')
inductive Dp (K:PySem.W.Frag):Sp
 |mk (z:Str)(ks:List Kd)(q:Addr)(_:vs= [.str z,.ref q])(_:↑z<=300)(_:↑ks<=3)(_:SqT K H q (ks.map λk=>V.str k.t))(_:∀p,H p=U_->Q (.ref p) (upd H p (.lst ((pcs ks z).map V.str))))
def Qq {c:Bool}{A B:Prop}(h:c=V1)(b:B):if c=v_ then A else B:=by rw[A4 (by rw[h];exact ub)];exact b
def QI {c:Bool}{A B:Prop}(h:c=v_)(a:A):if c=v_ then A else B:=by rw[A6 h];exact a
def zk (ks:oq Kd):(ks.map λk=>V.str k.t)=(ks.map Kd.t).map V.str:=by rw[uO];rfl
def IE (ks:oq Kd):inV (.str "words") (ks.map λk=>V.str k.t)=decide (Kd.words∈ks):=by
 rw[zk,xT,vd,Ae];constructor
 ·rintro⟨k,O,e⟩;cases k with
  |words=>exact O
  |box=>exact A8 e ()
  |line=>exact A8 e ()
 ·intro h;exact[_:h:1]
def BL:∀x∈FRM,↑x.2<=3:=by decide+kernel
def Kc (h:z∉BX):Yh n .box z=none:=by
 unfold Yh;exact A4 h
def Xm (h:z∈BX):Yh n .box z=u_ (.s z):=by
 unfold Yh;exact A6 h
def We (h:z∉(Va n).map λi:Nat=>(Ve (1+(i:Int)):Str)):Yh n .line z=none:=by
 unfold Yh;rw[tE,Uk];intro i hi e;exact h (Ae.mpr [i:hi:uq e])
def J4 (h:z∈(Va n).map λi:Nat=>(Ve (1+(i:Int)):Str)):∃j:Int,1<=j/\j<=n/\z=(Pt.n j).t/\Yh n .line z=u_ (.n j):=by
 erw[Ae.mp h,i,hi,e];unfold Yh;cases e2:(Va n).find? λi:Nat=>decide ((Ve (1+(i:Int)):Str)=z) with
 |none=>exact A8 (uh e) (List.find?_eq_none.mp e2 i hi)
 |some j=>
  have h1:=UN e2;have h2:=List.mem_range.mp (vN e2);exact⟨1+(j:Int),(),(),(uq h1).symm,by show F_ _ _=_;rw[e2];rfl⟩
section
variable {P:oh}{w:oj}{K:o0}{mg:Str->ot o7}{base:og}{a:Ad}{g:Ga}
def Os:#[C,1,a.f_part_of,a.d_part_of,["kind","piece","count"],Nl]:=by
 exists 9,T.m9,WD
 erw[h,n,kd,z,rfl,hn,hz,k];exists 3,%[#[qM,#[qr,QW,pv 0,qm],%[|#[qq,pv 1]],qv],#[qM,#[qr,QW,pv 0,qm],%[|#[qq,#[Q2,#[qr,8,Q9,pv 1,#[pe_gR,C.m_BOXES],#[w]],pv 1,qQ]]],qv],#[X3,["number"],[],(3),WD.nd,OZ,#[DN,7,_,T.xy,#v[qk,#[QC,Yy,pv 2,qk]],_,_],(λ_ _ _ _ _ _=>#[qN,(0),(show Vi (["number"]:oq Str) by decide+kernel)]),(λ_ _ _ _ _ _=> @yS _),(λ_ _ _ _ _ _=>#[qU,jd,T.zx,Uz,#v[pv 0]])]|#[qq,#[Q2,#[qr,8,Q9,pv 1,pv 3,#[w]],#[qU,Ip,T.z_int,tZ,#v[pv 1]],qQ]]]
 exists 0,1,0;cases kd with
 |words=>
  refine QI () [0:?_]
  exact k _ H (ig.refl _) [1:Ye ()]
 |box=>
  refine Qq () ⟨0,1,0,?_⟩
  refine QI () ⟨0,g.boxes,0,.inr (C.boxes _),1,Jh _,0,?_⟩
  rw[A4 ub,xT];refine nj (λc=>?_) (λc=>?_)
  ·have U:z∈BX:=uq c;rw[Xm U] at k;exact[0:k _ H (ig.refl _) [1:Ye ()]]
  ·have U:z∉BX:=λq=>c (uh q);rw[Kc U] at k;exact k _ H (ig.refl _) rfl
 |line=>
  refine Qq () ⟨0,1,0,?_⟩
  refine Qq () ?_
  exists 0,_,0,1,(1),(n:Int)+1,1,⟨(),(),(),()⟩,λL hL=>?_
  rw[show((n:Int)+1-1).toNat=n by omega]
  refine kh (lo:=1) (tl:= []) (λi ys H'=>ys=(Va i).map (λi:Nat=>V.str (Ve (1+(i:Int))))/\ig H H') (CT ()) [1:qf hL _] ?_ ?_
  ·rintro i ys H' hi ⟨rfl,sm⟩ O Z R hR
   exists 0,0,?_,hR _ _ O [?_:?_]
   ·have h1:(1+(i:Int)).natAbs<=41:=by omega
    have h2:=UZ (1+(i:Int)).natAbs;omega
   ·rw[vY,um]
    rfl
   ·intro b o e;rw[qh (qi e hL)];exact sm b o e
  ·rintro ys H' ⟨rfl,sm⟩ O;have Z:(Va n).map (λi:Nat=>V.str (Ve (1+(i:Int))))=((Va n).map λi:Nat=>(Ve (1+(i:Int)):Str)).map V.str:=by rw[uO];rfl
   exists 5
   refine⟨0,0,L,0,.inl (SqL.of O),1,by rw[Z];exact Jh _,0,?_⟩
   rw[A4 ub,Z,xT];refine nj (λc=>?_) (λc=>?_)
   ·erw[J4 (uq c),j,j1,j2,rfl,ej];rw[ej] at k;have hj:=oO j1 ()
    exact⟨0,_,j,1,Kn j1 (),vg hj.1 (),k _ _ sm rfl⟩
   ·rw[We λq=>c (uh q)] at k;exact k _ _ sm rfl
def Ea:#[T,1,a.ZL,a.ZU,["line","form"],(Dp K)]:=by
 exists 9,T.mO,nP,Z
 erw[h,z,ks,q,rfl,hz,hk,U,k];exists 3,%[#[qM,#[qr,8,Q9,qm,pv 1,#[w]],%[|#[qq,#[XY,vH,PySem.F.slot_str_split,PySem.F.type_str_split,Em,pv 0,#v[qm,#[qD,qR,T.Yg,uQ,#v[pv 1]]]]]],qv]|#[qq,#[XY,vH,PySem.F.slot_str_split,PySem.F.type_str_split,Le,pv 0,#v[qm]]]]
 exists 5
 refine⟨0,q,0,.inr U,1,by rw[zk];exact Jh _,0,?_⟩
 rw[A4 ub,IE];unfold pcs at k;refine nj (λc=>?_) (λc=>?_)
 ·have O:Kd.words∈ks:=uq c;rw[A6 O] at k;have h0:0<↑ks:=List.length_pos_iff.mpr λe=>by rw[e] at O;simp at O
  exact⟨0,1,0,q,0,.inr U,_,↑ks,1,by rw[u9],(),h0,(),k⟩
 ·have O:Kd.words∉ks:=λz=>c (uh z);rw[A4 O] at k;exact⟨0,1,0,1,(),k⟩
nonrec def Adw:ot Rw->D
 |none=> .non
 |some r=>rowD r
nonrec def Qn (n:Nat):D->ot Rw
 | .str z=>wk n z
 |_=>U_
inductive Do:Sp
 |mk (v:V)(d:D)(n:Nat)(_:vs= [v,.int (n:Int)])(_:Is H d v)(_:n<=40)(_:∀(v':V)(H':Hp),ig H H'->Is H' (Adw (Qn n d)) v'->Q v' H')
def Cn:∀{d:D},Lm d=V1->Qn n d=U_
 | .str z,h=>by
  show wk n z=U_;unfold wk;exact A4 (by rw[show Q3 z=V1 from h];exact ub)
 | .non,_=>rfl
 | .int _,_=>rfl
 | .bl _,_=>rfl
 | .lst,_=>rfl
 | .dct,_=>rfl
 | .tup _,_=>rfl
def MX:∀{d:D},Lm d=v_->∃z,d= .str z
 | .str z,_=>[z:1]
nonrec def j7 (n:Nat)(ks:oq Kd)(zs:oq Str):oq (ot Pt):=List.zipWith (Yh n) ks zs
def WE {n:Nat}:∀{ks:oq Kd}{zs:oq Str},(j7 n ks zs).any GD=v_->Yq n ks zs=U_
 | [],_,h=>by simp[j7] at h
 |_::_,[],h=>by simp[j7] at h
 |k::ks,z::zs,h=>by
  rw[j7,Tw,Ut,GV] at h;unfold Yq;rcases h with h|h
  ·rw[Option.isNone_iff_eq_none.mp h]
  ·rw[WE h];split
   ·rename_i h1 h2;cases h2
   ·rfl
def WQ {n:Nat}:∀{ks:oq Kd}{zs:oq Str},↑zs=↑ks->(j7 n ks zs).any GD=V1->∃ps,Yq n ks zs=u_ ps/\j7 n ks zs=ps.map u_
 | [],[],_,_=>[[]:1:1]
 | [],_::_,hl,_=>by simp at hl
 |_::_,[],hl,_=>by simp at hl
 |k::ks,z::zs,hl,h=>by
  rw[j7,Tw,Ut,Bool.or_eq_false_iff] at h;obtain⟨ps,O,e2⟩:=WQ (ks:=ks) (zs:=zs) (by simpa using hl) h.2
  cases e:Yh n k z with
  |none=>rw[e] at h;cases h.1
  |some p=>
   exists p::ps,?_,?_
   ·unfold Yq;rw[e,O]
   ·rw[j7,Tw,e,uD]
    congr 1
def LQ {H:Hp}:∀{os:oq (ot Pt)}{vs:oq V},L2.IsL H (os.map P9) vs->vs.all zi=v_/\inV .non vs=os.any GD
 | [],_,h=>by cases(show _= [] from h);exact[1:1]
 |q::ps,_,h=>by
  erw[h,v,r,rfl,h1,h2];erw[LQ h2,U,Z];have O:zi v=v_/\eqV v .non=q.isNone:=by
   cases q with
   |none=>cases(show v= .non from h1);exact[1:1]
   |some q=>
    cases q with
    |s z=>erw[h1,rfl,_];exact[1:1]
    |n i=>cases(show v= .int i from h1);exact[1:1]
  exists ?_,?_
  ·rw[vM,O.1,U];rfl
  ·show(eqV v .non||inV .non r)=_
   rw[O.2,Z];rfl
def DJ {α:Type}(l:oq α)(h:α->D)(f:Nat->D)(O:∀i q,l[i]? =u_ q->f i=h q):(Va ↑l).map f=l.map h:=by
 apply List.ext_getElem
 ·simp
 ·intro i h1 h2;simp![u9,Uv] at h1;simp![List.getElem_map,List.getElem_range];exact O i l[i] (uc h1)
def D8:#[C,2,a.f_row_of,a.d_row_of,["line","count"],Do]:=by
 have wx:=#[Wu,T];have Z:=#[Os,T,C];have O:=#[Ea,T];refine T.se.F.ok JA () (λ_ _ _ _ H vs Q E hr h=>?_)
 erw[h,v,d,n,rfl,hv,hn,k];exists 3,%[#[qM,#[Qm,#[qZ,#[qu,wx,hr.mono (),T.mI,#v[pv 0]]]],%[|#[qq,qQ]],qv],#[qH,(2),JA.nd,#[qF,qA,#[XY,vH,PySem.F.slot_str_partition,PySem.F.type_str_partition,OW,pv 0,#v[qm]]]],#[qM,#[qr,8,Od,pv 2,#[pe_gR,C.m_FORMS],#[w]],%[|#[qq,qQ]],qv],#[qH,(3),JA.nd,#[qF,7,Ady,#[pe_gR,C.m_FORMS],pv 2,(λ_ _=>rfl)]],#[qH,(4),JA.nd,#[qu,O,hr.mono (),T.mO,#v[pv 0,pv 3]]],#[qM,#[qr,DU,#[qD,qR,T.Yg,uQ,#v[pv 4]],#[QC,Yy,qk,#[qD,qR,T.Yg,uQ,#v[pv 3]]]],%[|#[qq,qQ]],qv],#[qH,(5),JA.nd,#[qU,qX,T.QP,vw,#v[#[wB,["kind","piece","count"],(2),[1],Lk (qj Zv) ["line","count","word","form","pieces","parts"],#[Aav,9,_,T.z_zip,#v[pv 3,#[Xz,sX,pv 4,#[zE,qk],Kb]],_,_],(λ_ _ _ _ _ _=>#[DO,1,K,3,(2),1,rfl,rfl,QD #[qN,(0),(show Vi (["kind","piece","count"]:oq Str) by decide+kernel)] (QD #[qN,(1),(show Vi (["kind","piece","count"]:oq Str) by decide+kernel)] xx),_,_]),(λ_ _ _ _ _ _=> @yS _),(λ_ _ _ _ _ _=>#[qu,Z,hr.mono (),T.m9,#v[pv 0,pv 1,pv 2]])]]]]|#[qq,#[Q2,#[qr,8,Q9,qQ,pv 5,#[w]],qQ,#[qz,#v[pv 2,pv 5]]]]]
 exists 0,v,d,1,hv,0;cases e0:Lm d with
 |false=>
  rw[Cn e0] at k;exact QI rfl (k _ H (ig.refl _) rfl)
 |true=>
 erw[MX e0,z,rfl];erw[hv,rfl,aq];have ht:Q3 z=true:=e0;have hz:↑z<=300:=by
  have U:=ht;unfold Q3 at U;rw[uG,vi] at U;exact U.1
 have k:∀(v':V) (H':Hp),ig H H'->Is H' (Adw (wk n z)) v'->Q v' H':=k;refine Qq rfl ?_
 exists 0,1,0,1,(),λt1 x1 x2 g1=>?_
 exists t1,_,(0),0,1,SqT.of qg,1;have s1:ig H (upd H t1 (.tup [.str (hd z),.str x1,.str x2])):=qf g1 _;generalize upd H t1 (.tup [.str (hd z),.str x1,.str x2])=H1 at s1⊢;unfold wk at k;rw[A6 ht] at k;cases ef:JZ (hd z) with
 |none=>
  rw[ef] at k
  exact⟨0,hd z,g.forms,0,1,C.kd,C.none_ _ ef,0,QI rfl (k _ _ s1 rfl)⟩
 |some ks=>
 have hk:=zt ef;rw[ef] at k;simp only at k;erw[C.forms _ hk,q,ag,aa];have hf:↑ks<=3:=BL _ hk
 exists 0,hd z,g.forms,0,1,C.kd,ag,0;refine Qq rfl ?_
 exists 0,hd z,g.forms,_,.ref q,1,1,C.kd,ag,1
 exists 0,0,z,ks,q,1,hz,hf,aa _,λp2 g2=>?_;have s2:ig H1 (upd H1 p2 (.lst ((pcs ks z).map V.str))):=qf g2 _;have e2:(upd H1 p2 (.lst ((pcs ks z).map V.str))) p2=u_ (.lst ((pcs ks z).map V.str)):=qg;generalize upd H1 p2 (.lst ((pcs ks z).map V.str))=H2 at s2 e2⊢
 exists 0,p2,0,.inl (SqL.of e2),0,q,0,.inr (aa _),_,0,1,1,0;by_cases hl:↑(pcs ks z)=1+↑ks
 case neg=>
  rw[A4 hl] at k;refine QI ?_ (k _ _ (s1.trans s2) rfl);rw[u9,u9];show(!decide (V.int _=V.int _))=v_;rw[ug]
  ·rfl
  ·intro q;have:(↑(pcs ks z):Int)=1+(↑ks:Int):=V.int.inj q;omega
 rw[A6 hl] at k;refine Qq ?_ ?_
 ·rw[u9,u9,show(↑(pcs ks z):Int)=1+(↑ks:Int) by omega]
  simp
 have ae:↑((pcs ks z).drop 1)=↑ks:=by rw[vE];omega
 have ah:∀p∈(pcs ks z).drop 1,↑p<=300:=λp hp=>by
  have U:=ht;unfold Q3 at U;rw[uG,vi] at U;exact(LX U.1 U.2 p (rV hp)).1
 exists 0,0,0,p2,0,SqL.of e2,λp3 g3=>?_;have ak:sU ((pcs ks z).map V.str) (u_ 1) U_=((pcs ks z).drop 1).map V.str:=by
  rw[show(u_ (1:Int))=u_ (((1:Nat)):Int) from rfl,ZD (by rw[u9];omega),List.map_drop]
 rw[ak];generalize (pcs ks z).drop 1=zs at ae ah k⊢;have s3:ig H2 (upd H2 p3 (.lst (zs.map V.str))):=qf g3 _;have e3:(upd H2 p3 (.lst (zs.map V.str))) p3=u_ (.lst (zs.map V.str)):=qg;generalize upd H2 p3 (.lst (zs.map V.str))=H3 at s3 e3⊢;have am:↑(j7 n ks zs)=↑ks:=by rw[j7,List.length_zipWith];omega
 exists q,p3,_,0,aa _,SqL.of e3,λA1 gA=>?_;refine Aa0 (K:=K) (tl:= [u_ (.int (n:Int))]) (xs:=ks.map λk:Kd=>V.str k.t) (ys:=zs.map V.str) (λi=>P9 ((j7 n ks zs).getD i U_)) (λH' _=>aa H') (λH' sm=>SqL.of (sm _ _ e3)) (by simp[ae]) (by rw[u9];exact Ye ()) gA ?_ ?_
 ·intro i x y H4 R hx hy s4 hR;rw[uC] at hx hy;cases af:ks[i]? with
  |none=>rw[af] at hx;cases hx
  |some kd=>
   rw[af] at hx;cases hx;cases ac:zs[i]? with
   |none=>rw[ac] at hy;cases hy
   |some z1=>
    rw[ac] at hy;cases hy
    exists 0,0,0,n,kd,z1,1,hn,ah _ (uN ac),λv H5 s5 hv=>hR v H5 s5 ?_;have e:(j7 n ks zs).getD i U_=Yh n kd z1:=by simp[VP,j7,List.getElem?_zipWith,af,ac]
    simp![e];exact hv
 intro H5 vs s5 e5 h5;have al:L2.IsL H5 ((j7 n ks zs).map P9) vs:=by
  rw[u9,<-am] at h5;rw[DJ (j7 n ks zs) P9 _ (λi q1 hi=>by simp[VP,hi])] at h5
  exact h5
 exists A1,vs,1,.inl [SqL.of e5:λt6 g6=>?_];have s6:ig H5 (upd H5 t6 (.tup vs)):=qf g6 _;have i6:Is (upd H5 t6 (.tup vs)) (.tup ((j7 n ks zs).map P9)) (.ref t6):=Is.new al g6;have e6:(upd H5 t6 (.tup vs)) t6=u_ (.tup vs):=qg;generalize upd H5 t6 (.tup vs)=H6 at s6 i6 e6⊢;erw[LQ al,f1,f2];have ad:=s1.trans (s2.trans (s3.trans (s5.trans s6)))
 exists 0,t6,vs,1,.inr (SqT.of e6),1,f1,0;rw[A4 ub,f2];refine nj (λc=>?_) (λc=>?_)
 ·rw[WE c] at k;exact k _ _ ad rfl
 ·have c':(j7 n ks zs).any GD=false:=by
   cases h:(j7 n ks zs).any GD with
   |false=>rfl
   |true=>exact A8 h c
  erw[WQ ae c',ps,q1,q2];rw[q1] at k;rw[q2,uO] at i6
  exists 0,0,(sml rfl),λt7 g7=>?_;have ao:↑(hd z)<=sizeLine:=by
   have ap:∀x∈FRM,↑x.1<=100:=by decide+kernel
   have:=ap _ hk;exact Ye (by simp only at this;omega)
  exact k _ _ (ad.trans (qf g7 _)) (Is.new (ds:= [.str (hd z),.tup (ps.map Pt.d)]) ⟨_,0,[1:ao],_,0,i6,1⟩ g7)
def DR {M:Nat}(hn:n<=40){k:Kd}{p:Pt}(h:Aaq n M k p):Yh n k p.t=u_ p:=by
 cases k with
 |words=>
  cases p with
  |s z=>rfl
  |n i=>cases h
 |box=>
  cases p with
  |s z=>exact Xm h
  |n i=>cases h
 |line=>
  cases p with
  |s z=>cases h
  |n i=>
   have h1:1<=i/\i<=n:=h;have hm:(Pt.n i).t∈(Va n).map λi:Nat=>(Ve (1+(i:Int)):Str):=Ae.mpr ⟨(i-1).toNat,List.mem_range.mpr (),by show(Ve (1+(((i-1).toNat:Nat):Int)):Str)=Ve i;rw[show 1+(((i-1).toNat:Nat):Int)=i by omega]⟩
   erw[J4 hm,j,U,j2,Z,e];rw[e];have b1:=Kn (i:=i) h1.1 ()
   have b2:=Kn (i:=j) U ()
   have O:(Ve i:Str)=Ve j:=Z;rw[O,b2] at b1;rw[uM b1]
def WJ {n M:Nat}(hn:n<=40):∀{ks:oq Kd}{ps:oq Pt},xS n M ks ps->Yq n ks (ps.map Pt.t)=u_ ps
 | [],[],_=>rfl
 |k::ks,p::ps,h=>by
  rw[uD];unfold Yq;rw[DR hn h.1,WJ hn h.2]
 | [],_::_,h=>h.elim
 |_::_,[],h=>h.elim
variable {ks:oq Kd}
def EV {w:Str}(h:(w,ks)∈FRM):JZ w=u_ ks:=by
 cases e:JZ w with
 |none=>exact A8 rfl (wq e _ h)
 |some O=>
  have:=EU _ (zt e) _ h rfl;rw[(Prod.mk.inj this).2]
variable {r:Rw}
def Cm {M:Nat}(hn:n<=40)(h:j8 n M r)(Z:Q3 (yM r)=v_):wk n (yM r)=u_ r:=by
 have hh:=OY h;erw[h,ks,U,O];unfold wk;rw[A6 Z,hh,EV U];simp only;have hs:pcs ks (yM r)=txs r:=Lj hn U O;have hl:=zJ O;rw[hs,A6 (by unfold txs;rw[uB,u9];omega)]
 show F_ _ (Yq n ks (r.2.map Pt.t))=_;rw[WJ hn O]
 rfl
nonrec def yE (rs:oq Rw):D:= .tup (rs.map λr=> .str (yM r))
structure QL (rs:oq Rw):Prop where
 n0:1<=↑rs
 n1:↑rs<=40
 ok:∀r∈rs,j8 ↑rs 300 r
 tree:isT (yE rs)=v_
def pZ:∀{ds:oq D}{d:D},goodL ds=v_->d∈ds->lp d=v_
 |x::xs,d,h,hm=>by
  simp![goodL,uG] at h;rcases Aa.mp hm with rfl|hm
  ·exact h.1
  ·exact pZ h.2 hm
variable {rs:oq Rw}
def QL.text (h:QL rs)(O:r∈rs):Q3 (yM r)=true:=by
 have h1:=h.tree;unfold isT at h1;rw[uG,uG] at h1;have h2:=h1.1.1;unfold yE at h2;simp![lp,uG] at h2;have:=pZ h2.2 (Ae.mpr [r:O:1])
 simpa only [lp] using this
nonrec def QK:D->ot (oq Rw)
 | .tup ds=>if(decide (1<=↑ds)&&decide (↑ds<=40)&&ds.all (λd=>(Qn ↑ds d).isSome)&&isT (.tup ds))=v_ then u_ (ds.filterMap (Qn ↑ds)) else U_
 |_=>U_
def Xv (ds:oq D):QK (.tup ds)=if(decide (1<=↑ds)&&decide (↑ds<=40)&&ds.all (λd=>(Qn ↑ds d).isSome)&&isT (.tup ds))=v_ then u_ (ds.filterMap (Qn ↑ds)) else none:=rfl
def nV {n:Nat}:∀{rs:oq Rw},(∀r∈rs,Qn n (.str (yM r))=u_ r)->(rs.map λr=>D.str (yM r)).filterMap (Qn n)=rs
 | [],_=>rfl
 |r::rs,h=>by
  rw[uD,Ub (h r ui),nV λx O=>h x (uj _ O)]
def QL.rowD (h:QL rs)(O:r∈rs):Qn ↑rs (.str (yM r))=u_ r:=Cm h.n1 (h.ok r O) (h.text O)
def QL.read (h:QL rs):QK (yE rs)=u_ rs:=by
 have Z:↑(rs.map λr=>D.str (yM r))=↑rs:=u9 ..;have U:=h.tree;unfold yE at U⊢;rw[Xv,Z,A6]
 ·rw[nV λr O=>h.rowD O]
 ·rw[uh h.n0,uh h.n1,U,List.all_eq_true.mpr]
  ·rfl
  ·intro d hd;erw[Ae.mp hd,r,O,rfl];rw[h.rowD O]
   rfl
nonrec def AdD (d x y:D):Prop:=(∀rs,QK d=u_ rs->x= .tup (rs.map L2.rowD)/\y= .non)/\(QK d=U_->∃i:Int,y= .int i)
inductive Nj:Sp
 |mk (v:V)(d:D)(_:vs= [v])(_:Is H d v)(_:∀(u:V)(H':Hp)(x y:D),ig H H'->AdD d x y->Is H' (.tup [x,y]) u->Q u H')
def DH {d x:D}{i:Int}(h:QK d=U_):AdD d x (.int i):=⟨λrs e=>(by rw[h] at e;cases e),λ_=>[i:1]⟩
def Xh {α:Type}{o:ot α}(h:o.isSome=v_):∃x,o=u_ x:=by cases o with
 |none=>cases h
 |some x=>exact[x:1]
variable {ds:oq D}
def DE {d:D}(h1:ds[i]? =u_ d)(h2:Qn n d=u_ r):(ds.take (i+1)).filterMap (Qn n)=(ds.take i).filterMap (Qn n)++ [r]:=by
 rw[vc,h1,List.filterMap_append];simp[h2]
def Bb {n:Nat}:∀{ds:oq D},(∀z∈ds,(Qn n z).isSome=v_)->↑(ds.filterMap (Qn n))=↑ds
 | [],_=>rfl
 |z::ds,h=>by
  erw[Xh (h z ui),r,e];rw[Ub e,uB,uB];exact A9 (·+1) (Bb λy O=>h y (uj _ O))
def D9:#[C,3,a.zK,a.zQ,["value"],Nj]:=by
 have yw:=#[jv,T];have aa:=#[D8,T,C];refine T.lU.F.ok YD () (λ_ _ _ _ H vs Q E hr h=>?_)
 erw[h,v,d,rfl,hv,k];exists 3,%[@qM _ _ _ _ _ _ _ _ #[JU,#[Qm,#[qZ,#[qD,#[qV,2,rfl],T.qS,ve,#v[pv 0,#[Q4,.ty "tuple",T.QP,vw]]]]],#[Y3,#[Qm,#[Bj,12,DW,DW,qk,#[qD,qR,T.Yg,uQ,#v[pv 0]],#[kJ,T.m_MOST_LINES],_]]]].pt %[|#[qq,#[qz,#v[#[qz,qd],qk]]]] qv,#[qH,(1),YD.nd,#[Y4,qd]],#[yJ,#[pi_tup,pv 0],#[qN,(2),YD.nd],%[#[qH,(3),YD.nd,#[qu,aa,hr.mono (),T.se,#v[pv 2,#[qD,qR,T.Yg,uQ,#v[pv 0]]]]],#[qM,#[qr,yl,pv 3,qQ],%[|#[qq,#[qz,#v[#[qU,qX,T.QP,vw,#v[pv 1]],#[QC,Yy,#[qD,qR,T.Yg,uQ,#v[pv 1]],qk]]]]],qv]|#[qY,#[XY,vb,vQ,vR,jr,pv 1,#v[pv 3]]]]]|#[qq,#[qz,#v[#[qU,qX,T.QP,vw,#v[pv 1]],#[Q2,#[qZ,#[qu,yw,hr.mono (),T.li,#v[pv 0]]],qQ,qk]]]]]
 exists 0,v,"tuple",_,zC d,1,hv.ty,xz d,0;have U:QK d=U_->∀(t:o6),H t=U_->∀t2,(upd H t (.tup [])) t2=U_->Q (.ref t2) (upd (upd H t (.tup [])) t2 (.tup [.ref t,.int 1])):=λhn t g t2 Z=>
  k _ _ (.tup []) (.int 1) ((qf g _).trans (qf Z _)) (DH hn) (Is.new (ds:= [.tup [],.int 1]) ⟨_,0,Is.new (ds:= []) rfl g,_,0,1,1⟩ Z)
 cases ht:zC d with
 |false=>
  have hn:QK d=none:=by
   cases d with
   |tup ds=>cases ht
   |_=>rfl
  exact lq (lq [(sml rfl):λt g1=>[(sml rfl):λt2 Z=>U hn t g1 t2 Z]])
 |true=>
 obtain⟨ds,rfl⟩:∃ds,d= .tup ds:=by
  cases d with
  |tup ds=>exact[ds:1]
  |_=>cases ht
 refine iU ?_;have ad:=hv;erw[ad,va,us,rfl,ha,hu];have ae:↑us=↑ds:=↑hu
 exists 0,va,us,1,.inr (SqT.of ha),_,0,1,0;have no:¬(1<=↑ds/\↑ds<=40/\(∀z∈ds,(Qn ↑ds z).isSome=v_)/\isT (.tup ds)=v_)->QK (.tup ds)=none:=λhc=>by
  unfold QK;refine A4 λz=>hc ?_;simp![uG,vi,U3] at z;exact⟨z.1.1.1,z.1.1.2,z.1.2,z.2⟩
 by_cases c1:1<=↑ds
 case neg=>
  refine Qq (ug ()) [0:?_]
  exact lq [(sml rfl):λt g1=>[(sml rfl):λt2 Z=>U (no λz=>c1 z.1) t g1 t2 Z]]
 refine QI (uh ()) ?_
 exists _,0,1,0;by_cases c2:↑ds<=40
 case neg=>
  refine QI (by rw[ug ()];rfl) ?_
  exact[(sml rfl):λt g1=>[(sml rfl):λt2 Z=>U (no λz=>c2 z.2.1) t g1 t2 Z]]
 refine Qq (by rw[uh ()];rfl) ?_
 exists (sml rfl),λL1 g1=>?_
 exists 0,va,1,[us:SqT.of (qf g1 _ _ _ ha)]
 let J1_:Nat->L2.St->Hp->Prop:=λi σ H'=>i<=↑ds/\(∀z∈ds.take i,(Qn ↑ds z).isSome=v_)/\∃(ws:oq V) (x2 x3:ot V),σ= [u_ (.ref va),u_ (.ref L1),x2,x3]/\H' L1=u_ (.lst ws)/\L2.IsL H' (((ds.take i).filterMap (Qn ↑ds)).map L2.rowD) ws/\ig H H'
 refine Z8 (K:=K) (a:=va) (xs:=us) J1_
  ⟨uY _,(λz hz=>by simp at hz),[],U_,U_,1,qg,1,qf g1 _⟩ (λi σ H' _ ⟨_,_,_,_,_,_,_,_,sm⟩=>SqT.of (sm _ _ ha)) ?_ ?_
 ·rintro i x σ H' hx ⟨ak,O,ws,x2,x3,rfl,e1,hw,sm⟩;have ac:i<↑ds:=by
   erw[Ag.mp hx,h,_];omega
  erw[hu.get (i:=i) (d:=ds[i]) (uc ac),x',af,al];rw[hx] at af;cases af;have am:↑ws=i:=by
   rw[↑hw,u9,Bb O,vy];omega
  exists 5
  refine⟨0,0,va,us,1,.inr (SqT.of (sm _ _ ha)),x,ds[i],↑ds,by rw[ae];rfl,al.mono sm.tk,c2,λv H2 s2 hv=>?_⟩
  have e2:=s2 _ _ e1;cases er:Qn ↑ds ds[i] with
  |some r=>
   rw[er] at hv;have hv:Is H2 (L2.rowD r) v:=hv;have ad:=hv;erw[ad,ag,ao,rfl,_,_]
   exists 0,1,0;refine Qq (ug λz=>by cases z) ?_
   exists 0,.inl [1:_:SqL.of e2],0,L1,ws,0,1,e2,X0 ()
   have t3:Tk H2 (upd H2 L1 (.lst (ws++ [.ref ag]))):=Tk.updL e2
   exists ac,λz hz=>?_,ws++ [.ref ag],_,0,qg,?_,λb o e=>?_
   ·rw[vc,uc ac] at hz;rcases Ac.mp hz with hz|hz
    ·exact O z hz
    ·have:z=ds[i]:=by simpa using hz
     rw[this,er]
     rfl
   ·rw[DE (uc ac) er,um];exact((hw.mono s2.tk).mono t3).append (IsL.one (hv.mono t3))
   ·rw[qh (qi e g1)];exact s2 b o (sm b o e)
  |none=>
   rw[er] at hv;cases(show v= .non from hv)
   exists 0,1,0;refine QI rfl ?_
   exists 0,L1,ws,1,.inl [SqL.of e2:λt1 Z=>?_];have s3:ig H2 (upd H2 t1 (.tup ws)):=qf Z _;have i3:Is (upd H2 t1 (.tup ws)) (.tup (((ds.take i).filterMap (Qn ↑ds)).map L2.rowD)) (.ref t1):=Is.new (hw.mono s2.tk) Z
   exists 0,L1,ws,1,.inl (SqL.of (s3 _ _ e2)),_,0,1,(sml rfl),λt4 g4=>?_;exact k _ _ _ (.int _) (sm.trans (s2.trans (s3.trans (qf g4 _)))) (DH (no λz=>by have:=z.2.2.1 _ (uV ac);rw[er] at this;cases this)) (Is.new (ds:= [.tup (((ds.take i).filterMap (Qn ↑ds)).map L2.rowD),.int _]) ⟨_,0,i3,_,0,1,1⟩ g4)
 ·rintro σ H' ⟨ak,O,ws,x2,x3,rfl,e1,hw,sm⟩;rw[ae,vU] at hw O
  exists 0,L1,ws,1,.inl [SqL.of e1:λt1 Z=>?_];have s2:ig H' (upd H' t1 (.tup ws)):=qf Z _;have i2:Is (upd H' t1 (.tup ws)) (.tup ((ds.filterMap (Qn ↑ds)).map L2.rowD)) (.ref t1):=Is.new hw Z;generalize upd H' t1 (.tup ws)=H2 at s2 i2⊢
  exists 0,_,.tup ds,1,hv.mono (sm.trans s2).tk,λH3 s3=>?_
  exists 0;cases hT:isT (.tup ds) with
  |true=>
   refine QI rfl [(sml rfl):λt4 g4=>?_];have ah:QK (.tup ds)=u_ (ds.filterMap (Qn ↑ds)):=by
    rw[Xv,A6];rw[uh c1,uh c2,hT,List.all_eq_true.mpr O]
    rfl
   exact k _ _ _ .non (sm.trans (s2.trans (s3.trans (qf g4 _)))) ⟨λrs e=>(by rw[ah] at e;cases e;exact[1:1]),λe=>(by rw[ah] at e;cases e)⟩ (Is.new (ds:= [.tup ((ds.filterMap (Qn ↑ds)).map L2.rowD),.non]) ⟨_,0,i2.mono s3.tk,_,0,1,1⟩ g4)
  |false=>
   refine Qq rfl [(sml rfl):λt4 g4=>?_];exact k _ _ _ (.int 1) (sm.trans (s2.trans (s3.trans (qf g4 _)))) (DH (no λz=>by have:=z.2.2.2;rw[hT] at this;cases this)) (Is.new (ds:= [.tup ((ds.filterMap (Qn ↑ds)).map L2.rowD),.int 1]) ⟨_,0,i2.mono s3.tk,_,0,1,1⟩ g4)
inductive Ng (br:Addr)(vs:List V)(H:Hp)(Q:VK)(E:XK):Prop
 |mk (v:V)(d:D)(_:vs= [v])(_:Is H d v)(_:(∀rs,QK d=u_ rs->∀(u:V)(H':Hp),ig H H'->Is H' (.tup (rs.map L2.rowD)) u->Q u H'))(_:(QK d=U_->∀(e:Addr)(H':Hp),ig H H'->E (.ref e) (u_ br) H'))
def Om (T:Tx K mg a)(C:Fx K w mg g a):FnOk P w K mg base (CX1 P w) 4 a.ZW a.wL ["tree"] (Ng g.br):=by
 have Z:=#[D9,T,C];refine T.lD.F.okX zS () (λ_ _ _ _ H _ Q E hr h=>?_)
 erw[h,v,d,rfl,hv,k,kB];exists 3,%[#[qH,(1),zS.nd,#[qu,Z,hr.mono (),T.lU,#v[pv 0]]],#[qM,#[qr,xp,#[qF,qA,pv 1],qQ],%[|#[W1,22,C.x_BadRule,_,C.m_BadRule,qm,_,_]],qv]|#[qq,#[qF,qA,pv 1]]]
 exists 0,v,d,1,hv,λu H1 x y s1 hd U=>?_
 exists 0
 try dsimp![tC]
 refine xG (i:=1) (d:=y) U rfl λz hz=>?_;cases O:QK d with
 |none=>
  erw[hd.2 O,i,rfl];cases(show z= .int i from hz)
  exists 1,0;refine QI (by rw[ug (λz=>by cases z)];rfl) ?_
  exact[1:λe=>kB O e H1 s1]
 |some rs=>
  erw[hd.1 rs O,rfl,rfl];cases(show z= .non from hz)
  exists 1,0;refine Qq rfl ?_
  exists 0
  try dsimp![tC]
  refine xG (i:=0) (d:= .tup (rs.map L2.rowD)) U rfl λq hq=>?_;exact k rs O q H1 s1 hq
nonrec def kvB (f:Str->V):oq (Key×V):=BX.map λz=>(V3 z,f z)
def Sf {f:Str->V}:∀{zs:oq Str}{z:Str},z∈zs->iJ (zs.map λz=>((V3 z:Key),f z)) (V3 z)=u_ (f z)
 |y::ys,z,h=>by
  rw[uD];by_cases e:y=z
  ·subst e;exact QF rfl
  ·have h':z∈ys:=by
    rcases Aa.mp h with rfl|h
    ·exact A8 rfl e
    ·exact h
   have:=Sf (f:=f) h';unfold iJ at this⊢;rw[v9];have e2:decide ((V3 y:Key)=V3 z)=false:=ug λq=>e (Ue q);simp![e2];exact this
def AcA {f:Str->V}{u:V}(h:z∈BX):lm (kvB f) (V3 z) u=kvB λy=>if y=z then u else f y:=by
 unfold lm;rw[A6]
 ·unfold kvB;rw[uO];refine vZ λy _=>?_;by_cases e:y=z
  ·simp[e]
  ·simp[e]
 ·rw[FC];exact⟨(V3 z,f z),Ae.mpr [z:h:1],by simp⟩
nonrec def YC (H:Hp)(d:o6)(B:Str->D):Prop:=∃f:Str->V,H d=u_ (.dK (kvB f))/\∀z∈BX,Is H (B z) (f z)
nonrec def l9 (B:Str->D)(z:Str)(e:D):Str->D:=λy=>if y=z then e else B y
variable {H H':Hp}
def YC.same {d:o6}{B:Str->D}(h:YC H d B)(s:ig H H'):YC H' d B:=let⟨f,e,i⟩:=h;[f:s _ _ e:λz hz=>(i z hz).mono s.tk]
def YC.move {d:o6}{B:Str->D}(h:YC H d B)(t:Tk H H')(e:H' d=H d):YC H' d B:=let⟨f,e1,i⟩:=h;[f:e.trans e1:λz hz=>(i z hz).mono t]
def YC.get {d:o6}{B:Str->D}(h:YC H d B)(hz:z∈BX):∃v,mM H d (.str z) (u_ v)/\Is H (B z) v:=by
 erw[h,f,e,i];exists f z,?_,i z hz;have:=mM.k (k:=(V3 z:Key)) e;rw[show iJ (kvB f) (V3 z)=u_ (f z) from Sf hz] at this
 exact this
variable {e:D}
def YC.put {d:o6}{B:Str->D}{u:V}(h:YC H d B)(hz:z∈BX)(O:Is H e u):∃kvs,CQ H d (.str z) u (upd H d (.dK kvs))/\YC (upd H d (.dK kvs)) d (l9 B z e)/\Tk H (upd H d (.dK kvs)):=by
 erw[h,f,ed,i];refine⟨kvB λy=>if y=z then u else f y,.inl ⟨_,V3 z,ed,1,by show ↑BX<V5;rw[uE];decide,by rw[AcA hz]⟩,[_:qg:λy U=>?_],Tk.updD ed⟩
 have t:Tk H (upd H d (.dK (kvB λy=>if y=z then u else f y))):=Tk.updD ed
 unfold l9;by_cases c:y=z
 ·rw[A6 c,A6 c];exact O.mono t
 ·rw[A4 c,A4 c];exact(i y U).mono t
nonrec def J1:oq D->Bool
 | []=>v_
 | .str _::r=>J1 r
 |_=>V1
nonrec def J2:oq D->oq Str
 | .str z::r=>z::J2 r
 |_=> []
nonrec def b0 (ps:oq Pt):Str:=(ps.getD 0 (.s "")).t
nonrec def b1 (ps:oq Pt):Str:=(ps.getD 1 (.s "")).t
nonrec def b2 (ps:oq Pt):Str:=(ps.getD 2 (.s "")).t
nonrec def EY:D->D
 | .str z=>if ↑z=0 then .non else .str ⟨#[z.cps.getD 0 0]⟩
 | .tup (x::_)=>x
 |_=> .non
nonrec def NN:D->D
 | .str z=>if ↑z=0 then .non else .str (Hq z (u_ 1) U_)
 | .tup (_::r)=> .tup r
 |_=> .non
nonrec def AaZ:D->Nat
 | .str z=>↑z
 | .tup xs=>↑xs
 |_=>0
nonrec def Adv:D->D->D
 | .tup xs,e=> .tup (xs++ [e])
 |_,_=> .non
nonrec def Aba:D->D->D
 | .str x,.str y=> .str (x++y)
 |_,_=> .non
nonrec def AdA:D->D->D
 | .str z,.str y=>if ↑y=0 then .non else .tup ((spG z y).map .str)
 |_,_=> .non
nonrec def Abg:D->D->D
 | .tup xs,.str y=>if J1 xs=v_ then .str (V9 y (J2 xs)) else .non
 |_,_=> .non
nonrec def made (w:Str)(B:Str->D)(own:Str)(ps:oq Pt):D:=
 if w="text" then .str (b1 ps) else if w="self" then .str own else if w="copy" then B (b1 ps) else if w="row" then .tup [] else
 if w="put" then Adv (B (b0 ps)) (B (b1 ps)) else if w="join" then Aba (B (b0 ps)) (B (b1 ps)) else if w="first" then EY (B (b1 ps)) else if w="rest" then NN (B (b1 ps)) else
 if w="size" then .str (Ve ((AaZ (B (b1 ps)):Nat):Int)) else if w="cut" then AdA (B (b1 ps)) (B (b2 ps)) else Abg (B (b1 ps)) (B (b2 ps))
variable {ps:oq Pt}
def QR {m:Nat}{w:Str}(h:j8 n m (w,ps))(O:(w,ks)∈FRM):xS n m ks ps:=by
 erw[h,U,h1,h2];have:=EU _ h1 _ O rfl;cases this;exact h2
def Acq {m:Nat}(h:xS n m [.box] ps):∃x,ps= [.s x]/\x∈BX:=by
 match ps,h with
 | [.s x],h=>exact[x:1:h.1]
 | [.n _],h=>exact h.1.elim
def wb {m:Nat}(h:xS n m [.box,.box] ps):∃x y,ps= [.s x,.s y]/\x∈BX/\y∈BX:=by
 match ps,h with
 | [.s x,.s y],h=>exact⟨x,y,1,h.1,h.2.1⟩
 | [.n _,_],h=>exact h.1.elim
 | [.s _,.n _],h=>exact h.2.1.elim
def L4 {m:Nat}(h:xS n m [.box,.box,.box] ps):∃x y z,ps= [.s x,.s y,.s z]/\x∈BX/\y∈BX/\z∈BX:=by
 match ps,h with
 | [.s x,.s y,.s z],h=>exact⟨x,y,z,1,h.1,h.2.1,h.2.2.1⟩
 | [.n _,_,_],h=>exact h.1.elim
 | [.s _,.n _,_],h=>exact h.2.1.elim
 | [.s _,.s _,.n _],h=>exact h.2.2.1.elim
def Acp {m:Nat}(h:xS n m [.box,.words] ps):∃x y,ps= [.s x,.s y]/\x∈BX/\↑y<=m/\y.cps.toList.all QV=true:=by
 match ps,h with
 | [.s x,.s y],h=>exact⟨x,y,1,h.1,h.2.1⟩
 | [.n _,_],h=>exact h.1.elim
 | [.s _,.n _],h=>exact h.2.1.elim
def Ty {m:Nat}(h:xS n m [.box,.line] ps):∃x,∃i:Int,ps= [.s x,.n i]/\x∈BX/\1<=i/\i<=n:=by
 match ps,h with
 | [.s x,.n i],h=>exact⟨x,i,1,h.1,h.2.1⟩
 | [.n _,_],h=>exact h.1.elim
 | [.s _,.s _],h=>exact h.2.1.elim
def Aaa {m:Nat}(h:xS n m [.box,.box,.line] ps):∃x y,∃i:Int,ps= [.s x,.s y,.n i]/\x∈BX/\y∈BX/\1<=i/\i<=n:=by
 match ps,h with
 | [.s x,.s y,.n i],h=>exact⟨x,y,i,1,h.1,h.2.1,h.2.2.1⟩
 | [.n _,_,_],h=>exact h.1.elim
 | [.s _,.n _,_],h=>exact h.2.1.elim
 | [.s _,.s _,.s _],h=>exact h.2.2.1.elim
nonrec def Iw (H:Hp)(t:o6)(ps:oq Pt):Prop:=Is H (.tup (ps.map Pt.d)) (.ref t)
nonrec def Tr (B:Str->D):Prop:=∀z∈BX,isT (B z)=v_
inductive XL (w:Str):Sp
 |mk (d t:Addr)(own:Str)(B:Str->D)(ps:List Pt)(n:Nat)(_:vs= [.ref d,.str own,.ref t])(_:YC H d B)(_:Tr B)(_:↑own<=100)(_:j8 n 300 (w,ps))(_:Iw H t ps)(_:∀(v:V)(H':Hp),ig H H'->Is H' (made w B own ps) v->Q v H')
variable {Q:VK}
def Ir {K:o0}{t:o6}(h:Iw H t ps)(e:ps[i]? =u_ (.s z))(q:Q (.str z) H):NS K (.ref t) (.int (i:Int)) H Q:=
 xG (d:= .str z) h (qC (by rw[uC,e];rfl)) λx O=>by erw[O,rfl,_];exact q
def xb {d:D}(h:isT d=v_):dp d<=12:=by
 unfold isT at h;rw[uG] at h;exact uq h.2
def My {d:D}(h:isT d=v_):sz d<=600:=by
 unfold isT at h;rw[uG,uG] at h;exact uq h.1.2
def jk {d:D}(h:isT d=v_):AaZ d<=600:=by
 have h1:=My h;cases d with
 |str z=>simp![sz] at h1;show ↑z<=600;omega
 |tup xs=>
  unfold isT at h;rw[uG,uG] at h;have h2:=h.1.1;simp![lp,uG] at h2;have:=uq h2.1;show ↑xs<=600;omega
 |_=>exact uY _
def PF (z y:Str):↑(z++y:Str)=↑z+↑y:=by
 show(z.cps++y.cps).size=z.cps.size+y.cps.size;exact Tt
def ny {K:o0}{t d:o6}{B:Str->D}(O:YC H d B)(h:Iw H t ps)(e:ps[i]? =u_ (.s z))(hz:z∈BX)(q:∀v,Is H (B z) v->Q v H):NS K (.ref t) (.int (i:Int)) H (λy H2=>MP Q (.ref d) y H2):=by
 erw[O.get hz,v,U,Z];exact Ir h e ⟨d,v,1,U,q v Z⟩
def Oi:#[T,1,a.xU,a.ww,["boxes","own","parts"],(XL "text")]:=by
 exists 9,T.lr,nK,Z
 erw[h,d,t,own,B,ps,n,rfl,hB,hT,ho,O,U,k];exists 3,%[|#[qq,#[qF,qA,pv 2]]]
 erw[Acp (QR O ()),x,y,rfl,hx,hy,hs]
 exact⟨0,Ir (i:=1) U rfl (k _ H (ig.refl _) ⟨1,Ye (by show ↑y<=1000;omega)⟩)⟩
def Ol:#[T,1,a.xV,a.wm,["boxes","own","parts"],(XL "self")]:=by
 exists 9,T.lC,nO,U
 erw[h,d,t,own,B,ps,n,rfl,Z,hT,ho,O,hp,k];exists 3,%[|#[qq,pv 1]]
 exact⟨0,k _ H (ig.refl _) ⟨1,Ye (by show ↑own<=1000;omega)⟩⟩
def AaL:#[T,1,a.zj,a.Wn,["boxes","own","parts"],(XL "row")]:=by
 exists 9,T.lT,sY,Z
 erw[h,d,t,own,B,ps,n,rfl,hB,hT,ho,U,hp,k];exists 3,%[|#[qq,#[qz,qd]]]
 exact[(sml rfl):λl O=>k _ _ (qf O _) (Is.new (ds:= []) rfl O)]
def OE:#[T,1,a.xn,a.Z1,["boxes","own","parts"],(XL "copy")]:=by
 exists 9,T.lK,nS,U
 erw[h,d,t,own,B,ps,n,rfl,Z,hT,ho,O,hp,k];exists 3,%[|#[qq,#[Qc,6,Qs U,pv 0,#[qF,qA,pv 2],(λ_ _=>rfl)]]]
 erw[wb (QR O ()),x,y,rfl,hx,hy]
 exists 0,0;exact ny (i:=1) Z hp rfl hy λv iv=>k _ H (ig.refl _) iv
def AaM:#[T,1,a.zn,a.WR,["boxes","own","parts"],(XL "put")]:=by
 exists 9,T.lV,ZC
 erw[h,d,t,own,B,ps,n,rfl,hB,hT,ho,aa,O,k];exists 3,%[#[qH,(3),ZC.nd,#[Qc,pv 0,#[qF,qA,pv 2]]],#[qM,#[Qm,#[qZ,#[qD,#[qV,2,rfl],T.qS,ve,#v[pv 3,#[Q4,.ty "tuple",T.QP,vw]]]]],%[|#[qq,qQ]],qv]|#[qq,#[QC,kW,pv 3,#[qz,#v[#[Qc,pv 0,#[qF,qA,pv 2]]]]]]]
 erw[wb (QR aa ()),x,y,rfl,hx,hy]
 exists 0,0;refine ny (i:=0) hB O rfl hx λv iv=>?_
 exists 0,v,"tuple",tyD (B x),zC (B x),1,iv.ty,xz _,0;have U:=jk (hT x hx);have k':∀(v:V) (H':Hp),ig H H'->Is H' (Adv (B x) (B y)) v->Q v H':=k;generalize B x=dx at iv k' U⊢;cases dx with
 |tup xs=>
  refine iU ?_;erw[iv,r,rs,rfl,er,ir]
  exists 0,0,0;refine ny (i:=1) hB O rfl hy λu iu=>?_
  exists (sml rfl),λl Z=>⟨r,l,rs,[u],1,1,SqT.of (qf Z _ _ _ er),SqT.of qg,?_,λe=>?_,λ_ e=>(by cases e),λ_ _ p O=>?_⟩
  ·rw[↑ir];have:↑xs<=600:=U;exact Ye (by show ↑xs+1<=1000;omega)
  ·subst e;have e2:xs= []:=vT ir.length.symm;subst e2;exact k' _ _ (qf Z _) (Is.new (ds:= [B y]) (IsL.one iu) Z)
  ·have t1:Tk H (upd H l (.tup [u])):=(qf Z _).tk;exact k' _ _ ((qf Z _).trans (qf O _)) (Is.new (ds:=xs++ [B y]) ((ir.mono t1).append (IsL.one (iu.mono t1))) O)
 |_=>exact lq (k' _ H (ig.refl _) rfl)
def Ow:#[T,1,a.xu,a.wK,["boxes","own","parts"],(XL "join")]:=by
 exists 9,T.lG,Ja
 erw[h,d,t,own,B,ps,n,rfl,hB,hT,ho,aa,hp,k];exists 3,%[#[qH,(3),Ja.nd,#[Qc,pv 0,#[qF,qA,pv 2]]],#[qH,(4),Ja.nd,#[Qc,pv 0,#[qF,qA,pv 2]]],@qM _ _ _ _ _ _ _ _ #[JU,#[Qm,#[qZ,#[qD,#[qV,2,rfl],T.qS,ve,#v[pv 3,#[Q4,.ty "str",T.zx,Uz]]]]],#[Y3,#[Qm,#[qZ,#[qD,#[qV,2,rfl],T.qS,ve,#v[pv 4,#[Q4,.ty "str",T.zx,Uz]]]]]]].pt %[|#[qq,qQ]] qv|#[qq,#[QC,JO,pv 3,pv 4]]]
 erw[wb (QR aa ()),x,y,rfl,hx,hy]
 exists 0,0;refine ny (i:=0) hB hp rfl hx λv iv=>?_
 exists 0,0;refine ny (i:=1) hB hp rfl hy λu iu=>?_;have lx:=jk (hT x hx);have ly:=jk (hT y hy);have O:∀(v:V) (H':Hp),ig H H'->Is H' (Aba (B x) (B y)) v->Q v H':=k;generalize B x=dx at iv O lx⊢;generalize B y=U at iu O ly⊢
 exists 0,v,"str",tyD dx,isStr dx,1,iv.ty,jK _,0;cases dx with
 |str z=>
  refine iU ⟨0,u,"str",tyD U,isStr U,1,iu.ty,jK _,0,?_⟩;cases U with
  |str Z=>
   refine iU ?_;erw[iv,rfl,_];erw[iu,rfl,_];have h1:↑z<=600:=lx;have h2:↑Z<=600:=ly;exact⟨0,0,_,0,1,CT (),O _ H (ig.refl _) ⟨1,by rw[show(z++Z).length=↑z+↑Z from PF z Z];exact CT ()⟩⟩
  |_=>exact lq (O _ H (ig.refl _) rfl)
 |_=>exact lq (O _ H (ig.refl _) (by cases U<;>rfl))
def KY:#[T,1,a.Jc,a.zH,["boxes","own","parts"],(XL "first")]:=by
 exists 9,T.ky,XS
 erw[h,d,t,own,B,ps,n,rfl,hB,hT,ho,Z,hp,k];exists 3,%[#[qH,(3),XS.nd,#[Qc,pv 0,#[qF,qA,pv 2]]]|#[qq,#[Q2,#[qr,oE,#[qD,Jy,T.Yg,uQ,#v[pv 3]],qk],#[qF,Xs,pv 3],qQ]]]
 erw[wb (QR Z ()),x,y,rfl,hx,hy]
 exists 0,0;refine ny (i:=1) hB hp rfl hy λv U=>?_;have ly:=jk (hT y hy);have hg:=hT y hy;have O:∀(v:V) (H':Hp),ig H H'->Is H' (EY (B y)) v->Q v H':=k;generalize B y=dy at U O ly hg⊢;cases dy with
 |str z=>
  erw[U,rfl,hz]
  exists 0,.inl ⟨z,1,hz,_,0,1,0,?_⟩;refine nj (λc=>?_) (λc=>?_)
  ·have h0:1<=↑z:=by have:=uq c;omega
   have k2:Is H (EY (.str z)) (.str ⟨#[z.cps.getD 0 0]⟩):=by
    show Is H (if ↑z=0 then D.non else _) _
    rw[A4 ()]
    exact⟨1,Ye (by show 1<=1000;decide)⟩
   exact[0:.inr (.inr ⟨z,(0),0,1,hz,BM h0,O _ H (ig.refl _) k2⟩)]
  ·have h0:↑z=0:=by
    rcases rZ ↑z with e|e
    ·exact e
    ·exact A8 (uh ()) c
   exact O _ H (ig.refl _) (by show Is H (if ↑z=0 then D.non else _) _;rw[A6 h0];rfl)
 |tup xs=>
  have aa:=U;erw[aa,r,rs,rfl,er,ir]
  exists 0,.inr ⟨r,rs,1,.inr (SqT.of er),λ_=>⟨_,0,1,0,?_⟩⟩;have hl:=↑ir;cases xs with
  |nil=>exact Qq (ug (by rw[hl];decide)) (O _ H (ig.refl _) rfl)
  |cons e es=>
   refine QI (uh (by rw[hl,uB];omega)) ?_
   exact[0:.inr (.inl (xG (i:=0) (d:=e) U (qC (j:=0) rfl) λq hq=>O _ H (ig.refl _) hq))]
 |_=>simp[isT,lp] at hg
def WM:∀xs:oq D,J1 xs=xs.all isStr
 | []=>rfl
 | .str _::r=>by show J1 r=_;rw[WM r];rfl
 | .non::_| .bl _::_| .int _::_| .lst::_| .dct::_| .tup _::_=>rfl
def AW:∀{xs:oq D},J1 xs=v_->xs=(J2 xs).map D.str
 | [],_=>rfl
 | .str z::r,h=>by
  show D.str z::r=D.str z::(J2 r).map D.str;rw[<-AW (show J1 r=v_ from h)]
def IsL.strs {H:Hp}:∀{l:oq Str}{vs:oq V},L2.IsL H (l.map D.str) vs->vs=l.map V.str
 | [],_,h=>h
 |_::_,_,h=>by
  erw[h,v,r,rfl,h1,h2];rw[IsL.strs h2,h1.1];rfl
def IsL.ofStrs {H:Hp}:∀{l:oq Str},(∀z∈l,↑z<=V5)->L2.IsL H (l.map D.str) (l.map V.str)
 | [],_=>rfl
 |z::l,h=>⟨_,0,[1:h z ui],IsL.ofStrs λy O=>h y (uj _ O)⟩
def AV:∀(l:oq Str),(l.map (·.length)).sum+↑l=szL (l.map D.str)
 | []=>rfl
 |z::l=>by
  have:=AV l;simp![uD,H_,uB,szL,sz];omega
def Ey (sep:Str):∀(l:oq Str),↑(V9 sep l)<=(l.map (·.length)).sum+↑l*↑sep
 | []=>uY _
 | [x]=>by simp[V9]
 |x::y::r=>by
  have O:=Ey sep (y::r);have e:↑(V9 sep (x::y::r))=↑x+↑sep+↑(V9 sep (y::r)):=by
   show((x.cps++sep.cps)++(V9 sep (y::r)).cps).size=_;rw[Tt,Tt]
   rfl
  rw[e,uD,H_,uB,Nat.succ_mul];omega
def Op:#[T,1,a.xr,a.wU,["boxes","own","parts"],(XL "rest")]:=by
 exists 9,T.lE,Zk
 erw[h,d,t,own,B,ps,n,rfl,hB,hT,ho,Z,U,k];exists 3,%[#[qH,(3),Zk.nd,#[Qc,pv 0,#[qF,qA,pv 2]]]|#[qq,#[Q2,#[qr,oE,#[qD,Jy,T.Yg,uQ,#v[pv 3]],qk],#[Xz,S6,pv 3,#[zE,qk],Kb],qQ]]]
 erw[wb (QR Z ()),x,y,rfl,hx,hy]
 exists 0,0;refine ny (i:=1) hB U rfl hy λv iv=>?_;have ly:=jk (hT y hy);have hg:=hT y hy;have O:∀(v:V) (H':Hp),ig H H'->Is H' (NN (B y)) v->Q v H':=k;generalize B y=dy at iv O ly hg⊢;cases dy with
 |str z=>
  erw[iv,rfl,hz]
  exists 0,.inl ⟨z,1,hz,_,0,1,0,?_⟩;refine nj (λc=>?_) (λc=>?_)
  ·have h0:1<=↑z:=by have:=uq c;omega
   have k2:Is H (NN (.str z)) (.str (Hq z (u_ 1) U_)):=by
    show Is H (if ↑z=0 then D.non else _) _
    rw[A4 ()]
    exact[1:vg (TU z _ _) hz]
   exact[0:0:.inl ⟨z,1,hz,O _ H (ig.refl _) k2⟩]
  ·have h0:↑z=0:=by
    rcases rZ ↑z with e|e
    ·exact e
    ·exact A8 (uh ()) c
   exact O _ H (ig.refl _) (by show Is H (if ↑z=0 then D.non else _) _;rw[A6 h0];rfl)
 |tup xs=>
  have aa:=iv;erw[aa,r,rs,rfl,er,ir]
  exists 0,.inr ⟨r,rs,1,.inr (SqT.of er),λ_=>⟨_,0,1,0,?_⟩⟩;have hl:=↑ir;cases xs with
  |nil=>exact Qq (ug (by rw[hl];decide)) (O _ H (ig.refl _) rfl)
  |cons e es=>
   refine QI (uh (by rw[hl,uB];omega)) ?_
   erw[ir,v0,r0,rfl,i0,i1]
   exists 0,0,.inr ⟨r,v0::r0,1,SqT.of er,λh=>?_,λ_ p U=>?_⟩
   ·exfalso;have:=h.1;simp[HT.sIx] at this
   ·have e1:sU (v0::r0) (u_ 1) U_=r0:=by
     rw[show(u_ (1:Int))=u_ (((1:Nat)):Int) from rfl,ZD (by simp)]
     rfl
    rw[e1];exact O _ _ (qf U _) (Is.new i1 U)
 |_=>simp[isT,lp] at hg
def Oj:#[T,1,a.Xc,a.ZV,["boxes","own","parts"],(XL "size")]:=by
 exists 9,T.lz,nN
 erw[h,d,t,own,B,ps,n,rfl,hB,hT,ho,O,hp,k];exists 3,%[|#[qq,#[qU,jd,T.zx,Uz,#v[#[qD,Jy,T.Yg,uQ,#v[#[Qc,pv 0,#[qF,qA,pv 2]]]]]]]]
 erw[wb (QR O ()),x,y,rfl,hx,U]
 exists 0,0;refine ny (i:=1) hB hp rfl U λv Z=>?_;have ly:=jk (hT y U);have hg:=hT y U;have k':∀(v:V) (H':Hp),ig H H'->Is H' (.str (Ve ((AaZ (B y):Nat):Int))) v->Q v H':=k;generalize B y=dy at Z k' ly hg⊢;have sm:∀n:Nat,n<=600->((n:Int)).natAbs.log2<1920/\↑((Ve (n:Int):Str))<=sizeLine:=by
  intro n hn;have h2:=UZ ((n:Int)).natAbs;exact[():int_text_fits ()]
 cases dy with
 |str z=>
  erw[Z,rfl,hz];have h2:=sm ↑z ly;exact .inl ⟨z,1,hz,0,h2.1,k' _ H (ig.refl _) [1:h2.2]⟩
 |tup xs=>
  have aa:=Z;erw[aa,r,rs,rfl,er,ir];have h2:=sm ↑xs ly;refine .inr ⟨r,rs,1,.inr (SqT.of er),λ_=>[0:?_:?_]⟩
  ·rw[↑ir];exact h2.1
  ·rw[↑ir];exact k' _ H (ig.refl _) [1:h2.2]
 |_=>simp[isT,lp] at hg
def AaQ:#[T,1,a.zd,a.WZ,["boxes","own","parts"],(XL "cut")]:=by
 exists 9,T.lX,xj
 erw[h,d,t,own,B,ps,n,rfl,hB,hT,ho,aa,Z,k];exists 3,%[#[qH,(3),xj.nd,#[Qc,pv 0,#[qF,qA,pv 2]]],#[qH,(4),xj.nd,#[Qc,pv 0,#[qF,qA,pv 2]]],@qM _ _ _ _ _ _ _ _ #[JU,#[Qm,#[qZ,#[qD,#[qV,2,rfl],T.qS,ve,#v[pv 3,#[Q4,.ty "str",T.zx,Uz]]]]],#[JU,#[Qm,#[qZ,#[qD,#[qV,2,rfl],T.qS,ve,#v[pv 4,#[Q4,.ty "str",T.zx,Uz]]]]],#[Y3,#[qr,QW,pv 4,qm]]]].pt %[|#[qq,qQ]] qv|#[qq,#[qU,qX,T.QP,vw,#v[#[XY,vH,PySem.F.slot_str_split,PySem.F.type_str_split,En,pv 3,#v[pv 4]]]]]]
 erw[L4 (QR aa ()),x0,x,y,rfl,ac,hx,hy]
 exists 0,0;refine ny (i:=1) hB Z rfl hx λv iv=>?_
 exists 0,0;refine ny (i:=2) hB Z rfl hy λu iu=>?_;have lx:=jk (hT x hx);have ly:=jk (hT y hy);have U:∀(v:V) (H':Hp),ig H H'->Is H' (AdA (B x) (B y)) v->Q v H':=k;generalize B x=dx at iv U lx⊢;generalize B y=dy at iu U ly⊢
 exists 0,v,"str",tyD dx,isStr dx,1,iv.ty,jK _,0;cases dx with
 |str z=>
  refine iU ⟨0,u,"str",tyD dy,isStr dy,1,iu.ty,jK _,0,?_⟩;cases dy with
  |str O=>
   refine iU ?_;erw[iv,rfl,_];erw[iu,rfl,_];have h1:↑z<=600:=lx;have h2:↑O<=600:=ly
   exists 0,1,0;refine nj (λc=>?_) (λc=>?_)
   ·have e:O="":=by have:=uq c;injection this
    subst e;exact U _ H (ig.refl _) rfl
   ·have h3:↑O≠0:=λh=>c (uh (by
     have:O="":=by
      have h4:O.cps= #[]:=Array.eq_empty_of_size_eq_zero h;cases O;simp only at h4;subst h4
      decide+kernel
     rw[this]))
    exists 0,1,0,z,O,1,1,(),(),λp Z=>[p:0:.inl [SqL.of qg:λl hl=>?_]]
    have s1:ig H (upd H p (.lst ((spG z O).map V.str))):=qf Z _;refine U _ _ (s1.trans (qf hl _)) ?_;show Is _ (if ↑O=0 then D.non else .tup ((spG z O).map D.str)) _
    rw[A4 h3];exact Is.new (IsL.ofStrs λq hq=>Ye (by have:=ND hq;omega)) hl
  |_=>exact lq (U _ H (ig.refl _) rfl)
 |_=>exact lq (U _ H (ig.refl _) (by cases dy<;>rfl))
def Oz:#[T,1,a.xB,a.wA,["boxes","own","parts"],(XL "glue")]:=by
 exists 9,T.lJ,Jj
 erw[h,d,t,own,B,ps,n,rfl,hB,hT,ho,ae,hp,k];exists 3,%[#[qH,(3),Jj.nd,#[Qc,pv 0,#[qF,qA,pv 2]]],#[qH,(4),Jj.nd,#[Qc,pv 0,#[qF,qA,pv 2]]],@qM _ _ _ _ _ _ _ _ #[JU,#[Qm,#[qZ,#[qD,#[qV,2,rfl],T.qS,ve,#v[pv 3,#[Q4,.ty "tuple",T.QP,vw]]]]],#[Y3,#[Qm,#[qZ,#[qD,#[qV,2,rfl],T.qS,ve,#v[pv 4,#[Q4,.ty "str",T.zx,Uz]]]]]]].pt %[|#[qq,qQ]] qv,#[qM,#[Qm,#[qZ,#[qD,#[Xn,1,rfl],T.z_all,Hg,#v[#[wB,["part"],(1),[],OZ,#[wc,pv 3],(λ_ _ _ _ _ _=>#[qN,(0),(show Vi (["part"]:oq Str) by decide+kernel)]),(λ_ _ _ _ _ _=> @yS _),(λ_ _ _ _ _ _=>#[qD,#[qV,2,rfl],T.qS,ve,#v[pv 0,#[Q4,.ty "str",T.zx,Uz]]])]]]]],%[|#[qq,qQ]],qv]|#[qq,#[XY,vH,PySem.F.slot_str_join,PySem.F.type_str_join,Lg,pv 4,#v[pv 3]]]]
 erw[L4 (QR ae ()),x0,x,y,rfl,ah,hx,hy]
 exists 0,0;refine ny (i:=1) hB hp rfl hx λv iv=>?_
 exists 0,0;refine ny (i:=2) hB hp rfl hy λu iu=>?_;have lx:=jk (hT x hx);have hg:=hT x hx;have ly:=jk (hT y hy);have U:∀(v:V) (H':Hp),ig H H'->Is H' (Abg (B x) (B y)) v->Q v H':=k;generalize B x=dx at iv U lx hg⊢;generalize B y=dy at iu U ly⊢
 exists 0,v,"tuple",tyD dx,zC dx,1,iv.ty,xz _,0;cases dx with
 |tup xs=>
  refine iU ⟨0,u,"str",tyD dy,isStr dy,1,iu.ty,jK _,0,?_⟩;cases dy with
  |str Z=>
   refine iU ?_;erw[iv,r,rs,rfl,er,ir];erw[iu,rfl,_];have h1:↑xs<=600:=lx;have h2:↑Z<=600:=ly
   exists 0,r,rs,1,SqT.of er,λak A0 af=>?_;refine Au (tl:= []) (λd=> .bl (isStr d)) er ir (CT ()) af (λd0 x0 H3 R al s3 i3 q=>⟨0,x0,"str",tyD d0,isStr d0,1,i3.ty,jK _,q _ H3 (ig.refl _) rfl⟩) λH1 ys s1 l1 i1=>?_
   have ey:ys=(xs.map isStr).map V.bl:=IsL.bls (by rwa[uO])
   subst ey
   exists A0,xs.map isStr,1,SqL.of l1,0;have aa:(xs.map isStr).all id=J1 xs:=by rw[WM,Us];rfl
   rw[aa];cases O:J1 xs with
   |false=>exact lq (U _ H1 s1 (by show Is H1 (if J1 xs=v_ then _ else D.non) _;rw[O];rfl))
   |true=>
    have ac:=AW O;have ag:rs=(J2 xs).map V.str:=IsL.strs (by rwa[<-ac])
    have hsz:=My hg;have ad:=AV (J2 xs);rw[<-ac] at ad;simp![sz] at hsz;have am:↑(J2 xs)*↑Z<=600*600:=Nat.mul_le_mul () h2
    have hj:=Ey Z (J2 xs);refine iU ⟨0,1,0,Z,r,J2 xs,1,1,SqT.of (by rw[s1 _ _ er,ag]),(),?_⟩
    refine U _ H1 s1 ?_;show Is H1 (if J1 xs=v_ then .str (V9 Z (J2 xs)) else D.non) _
    rw[O];exact[1:CT ()]
  |_=>exact lq (U _ H (ig.refl _) rfl)
 |_=>exact lq (U _ H (ig.refl _) (by cases dy<;>rfl))
nonrec def Mu (w:Str)(B:Str->D)(ps:oq Pt):Bool:=if w="like" then eqD (B (b0 ps)) (B (b1 ps)) else if w="rowed" then zC (B (b0 ps)) else if w="none" then decide (AaZ (B (b0 ps))=0) else v_
nonrec def JMP:oq Str:= ["go","like","rowed","none"]
nonrec def ASK:oq Str:= ["ask","has","names"]
nonrec def flt (w:Str):D:= .tup [.str "fault",.str w]
nonrec def nu (w:Str)(held:D):D:=if w="names" then(if isStr held=v_ then .tup [.str "asks",.tup [.str "names",held]] else flt "kind") else if my held=v_ then .tup [.str "asks",.tup [.str (if w="ask" then "thing" else "has"),held]] else flt "name"
inductive Nt:Sp
 |mk (d t:Addr)(w:Str)(B:Str->D)(ps:List Pt)(n:Nat)(_:vs= [.ref d,.str w,.ref t])(_:YC H d B)(_:Tr B)(_:w∈JMP)(_:j8 n 300 (w,ps))(_:Iw H t ps)(_:Q (.bl (Mu w B ps)) H)
inductive Jq:Sp
 |mk (w:Str)(v:V)(d:D)(_:vs= [.str w,v])(_:w∈ASK)(_:Is H d v)(_:∀(u:V)(H':Hp),ig H H'->Is H' (nu w d) u->Q u H')
mutual
theorem EL:∀{d:D},lp d=v_->puD d=v_
 | .str _,_=>rfl
 | .tup xs,h=>by
  simp![lp,uG] at h;show puL xs=v_;exact goodL_pu h.2
 | .non,h| .bl _,h| .int _,h| .lst,h| .dct,h=>by simp[lp] at h
theorem goodL_pu:∀{xs:oq D},goodL xs=v_->puL xs=v_
 | [],_=>rfl
 |x::r,h=>by
  simp![goodL,uG] at h;simp![puL,EL h.1,goodL_pu h.2,G_]
end
def Pb {d:D}(h:lp d=v_):trD d=true:=by
 cases d with
 |str z=>rfl
 |tup xs=>exact EL (d:= .tup xs) h
 |_=>simp[lp] at h
def Ya {d:D}(h:isT d=v_):lp d=true:=by
 unfold isT at h;rw[uG,uG] at h;exact h.1.1
def oY {d:D}(h:isT d=v_):trD d=true:=Pb (Ya h)
def Ov:#[T,1,a.Ju,a.Jm,["boxes","word","parts"],Nt]:=by
 exists 9,T.lZ,Zs
 erw[h,d,t,w,B,ps,n,rfl,hB,hT,hw,U,hp,k];exists 3,%[#[qM,#[qr,QW,pv 1,qm],%[|#[qq,#[Qg,#[Bo,1,hr.units],#[Qc,pv 0,#[qF,qA,pv 2]],#[Qc,pv 0,#[qF,qA,pv 2]]]]],qv],#[qM,#[qr,QW,pv 1,qm],%[|#[qq,#[qD,#[qV,2,rfl],T.qS,ve,#v[#[Qc,pv 0,#[qF,qA,pv 2]],#[Q4,.ty "tuple",T.QP,vw]]]]],qv],#[qM,#[qr,QW,pv 1,qm],%[|#[qq,#[Qg,QW,#[qD,Jy,T.Yg,uQ,#v[#[Qc,pv 0,#[qF,qA,pv 2]]]],qk]]],qv]|#[qq,YM]]
 exists 0,1,0;simp![JMP,uH,uI,uS] at hw;rcases hw with rfl|rfl|rfl|rfl
 ·refine Qq () ?_
  exists 0,1,0,Qq () ?_
  exists 0,1,0,Qq () ?_
  exact k
 ·refine QI () ?_
  erw[Aaa (QR U ()),x,y,i,rfl,O,hy,_]
  exists 0,0
  try dsimp![tC]
  refine ny (i:=0) hB hp rfl O λv Z=>?_
  exists 0,0
  try dsimp![tC]
  refine ny (i:=1) hB hp rfl hy λu iu=>?_
  exists B x,B y,Z,iu,oY (hT x O),oY (hT y hy),?_,k
  ·have:=xb (hT x O);omega
 ·refine Qq () ?_
  exists 0,1,0,QI () ?_
  erw[Ty (QR U ()),x,i,rfl,O,_]
  exists 0,0;refine ny (i:=0) hB hp rfl O λv Z=>?_;exact⟨v,"tuple",tyD (B x),zC (B x),1,Z.ty,xz _,k⟩
 ·refine Qq () ?_
  exists 0,1,0,Qq () ?_
  exists 0,1,0,QI () ?_
  erw[Ty (QR U ()),x,i,rfl,O,_]
  exists 0,0;refine ny (i:=0) hB hp rfl O λv Z=>?_;have k':Q (.bl (decide (AaZ (B x)=0))) H:=k;have hg:=hT x O;generalize B x=dx at Z k' hg⊢;have hn:∀n:Nat,decide (V.int (n:Int)=V.int 0)=decide (n=0):=λn=>by
   rw[vd];constructor
   ·intro h;injection h with h;omega
   ·rintro rfl;rfl
  cases dx with
  |str z=>
   erw[Z,rfl,hz];refine .inl ⟨z,1,hz,1,?_⟩;rw[hn];exact k'
  |tup xs=>
   erw[Z,r,rs,rfl,er,ir];refine .inr ⟨r,rs,1,.inr (SqT.of er),λ_=>[1:?_]⟩;rw[hn,↑ir];exact k'
  |_=>simp[isT,lp] at hg
def K7:#[T,2,a.jP,a.jT,["word","held"],Jq]:=by
 have QG:=#[xw,T];exists 9,T.lQ,zu
 erw[h,w,v,d,rfl,hw,iv,k];exists 3,%[#[qM,#[qr,QW,pv 0,qm],%[|#[qq,#[Q2,#[qZ,#[qD,#[qV,2,rfl],T.qS,ve,#v[pv 1,#[Q4,.ty "str",T.zx,Uz]]]],#[qz,#v[qm,#[qz,#v[qm,pv 1]]]],#[qz,#v[qm,qm]]]]],qv],#[qM,#[Qm,#[qZ,#[qu,QG,hr.mono (),T.iM,#v[pv 1]]]],%[|#[qq,#[qz,#v[qm,qm]]]],qv]|#[qq,#[qz,#v[qm,#[qz,#v[#[Q2,#[qr,QW,pv 0,qm],qm,qm],pv 1]]]]]]
 have two:(2:Nat)<=sizeLine:=by decide
 have st:∀{H:Hp} (z:Str),↑z<=100->Is H (.str z) (.str z):=λz hz=>[1:Ye ()]
 have fl:∀(z:Str) (H:Hp) (l:o6),↑z<=100->H l=U_->Is (upd H l (.tup [.str "fault",.str z])) (flt z) (.ref l):=λz H l hz U=>Is.new (ds:= [.str "fault",.str z]) ⟨_,0,st _ (),_,0,st _ hz,1⟩ U
 exists 0,1,0;by_cases c:w="names"
 ·subst c;refine QI () ?_
  have ea:nu "names" d=if isStr d=v_ then .tup [.str "asks",.tup [.str "names",d]] else flt "kind":=by unfold nu;rw[A6 rfl]
  rw[ea] at k
  exists 0,v,"str",tyD d,isStr d,1,iv.ty,jK _,0;cases hs:isStr d with
  |true=>
   rw[hs] at k;refine lq [0:two:λl U=>[two:λZ O=>?_]];have t1:ig H (upd H l (.tup [.str "names",v])):=qf U _;refine k _ _ (t1.trans (qf O _)) ?_;exact Is.new (ds:= [.str "asks",.tup [.str "names",d]]) ⟨_,0,st _ (),_,0,Is.new (ds:= [.str "names",d]) ⟨_,0,st _ (),_,0,iv,1⟩ U,1⟩ O
  |false=>
   rw[hs] at k;exact iU [two:λl U=>k _ _ (qf U _) (fl "kind" H l () U)]
 ·refine Qq (ug λh=>c (by injection h)) ?_
  have ea:nu w d=if my d=v_ then .tup [.str "asks",.tup [.str (if w="ask" then "thing" else "has"),d]] else flt "name":=by unfold nu;rw[A4 c]
  rw[ea] at k
  exists 0,v,d,1,iv,λH1 s1=>[0:?_];cases hs:my d with
  |false=>
   rw[hs] at k;exact lq [two:λl U=>k _ _ (s1.trans (qf U _)) (fl "name" H1 l () U)]
  |true=>
   rw[hs] at k;refine iU ⟨0,1,0,?_⟩;have aa:∀z:Str,↑z<=100->z=(if w="ask" then("thing":Str) else "has")->∀l,H1 l=U_->∀Z,(upd H1 l (.tup [.str z,v])) Z=U_->Q (.ref Z) (upd (upd H1 l (.tup [.str z,v])) Z (.tup [.str "asks",.ref l])):=by
    intro z hz ez l U Z O;have t1:ig H1 (upd H1 l (.tup [.str z,v])):=qf U _;refine k _ _ (s1.trans (t1.trans (qf O _))) ?_;rw[<-ez];exact Is.new (ds:= [.str "asks",.tup [.str z,d]]) ⟨_,0,st _ (),_,0,Is.new (ds:= [.str z,d]) ⟨_,0,st _ hz,_,0,iv.mono s1.tk,1⟩ U,1⟩ O
   refine nj (λc2=>?_) (λc2=>?_)
   ·have e:w="ask":=by have:=uq c2;injection this
    exact⟨0,two,λl U=>⟨two,λZ O=>aa "thing" () (by rw[A6 e]) l U Z O⟩⟩
   ·have e:w≠"ask":=λe=>c2 (uh (by rw[e]))
    exact⟨0,two,λl U=>⟨two,λZ O=>aa "has" () (by rw[A4 e]) l U Z O⟩⟩
end
structure Mc where
 (x db dg:o6)
 rs:oq Rw
 own:Str
structure Rn where
 B:Str->D
 p:Int
 n:Nat
 gs:oq D
 th:D
nonrec def MTH:oq Str:= ["now","answer","asked","lines","copy","go_on","is_waiting","do_row","hold"]
structure Fl (fs:oq (Str×V))(rv ru:V)(own:Str)(db dg:o6)(place:Int)(done:Nat)(tv:V):Prop where
 rows:fs.lookup ("rows":Str)=u_ rv
 rule:fs.lookup ("rule":Str)=u_ ru
 own:fs.lookup ("own":Str)=u_ (.str own)
 boxes:fs.lookup ("boxes":Str)=u_ (.ref db)
 place:fs.lookup ("place":Str)=u_ (.int place)
 done:fs.lookup ("done":Str)=u_ (.int (done:Int))
 given:fs.lookup ("given":Str)=u_ (.ref dg)
 there:fs.lookup ("there":Str)=u_ tv
 meth:∀m∈MTH,fs.lookup m=U_
 len:↑fs<=20
def Y6 {f:Str}{v:V}:∀{fs:oq (Str×V)}{u:V},fs.lookup f=u_ u->↑(iE f v fs)=↑fs
 |(g,x)::r,u,h=>by
  unfold iE;by_cases c:g=f
  ·rw[A6 c];rfl
  ·rw[A4 c,uB,uB];have e:(f==g)=false:=by simp;exact λz=>c z.symm
   rw[vn,e] at h;rw[Y6 (u:=u) h]
 | [],u,h=>by simp at h
section
variable {fs:oq (Str×V)}{rv ru:V}{own:Str}{db dg:o6}{place:Int}{done:Nat}{tv:V}
def Fl.set_there {u:V}(h:Fl fs rv ru own db dg place done tv):Fl (iE "there" (u) fs) rv ru own db dg place done u:=by
 refine⟨?_,?_,?_,?_,?_,?_,?_,?_,λm hm=>?_,by rw[Y6 h.there];exact h.len⟩
 all_goals rw[qI]
 all_goals first|rw[A6 rfl]|(rw[A4 ()];first|exact h.rows|exact h.rule|exact h.own|exact h.boxes|exact h.place|exact h.done|exact h.given|exact h.there)|(rw[A4 (λe=>by subst e;revert hm;decide+kernel)];exact h.meth m hm)
def Fl.set_place {q:Int}(h:Fl fs rv ru own db dg place done tv):Fl (iE "place" (.int q) fs) rv ru own db dg q done tv:=by
 refine⟨?_,?_,?_,?_,?_,?_,?_,?_,λm hm=>?_,by rw[Y6 h.place];exact h.len⟩
 all_goals rw[qI]
 all_goals first|rw[A6 rfl]|(rw[A4 ()];first|exact h.rows|exact h.rule|exact h.own|exact h.boxes|exact h.place|exact h.done|exact h.given|exact h.there)|(rw[A4 (λe=>by subst e;revert hm;decide+kernel)];exact h.meth m hm)
def Fl.set_done {k:Nat}(h:Fl fs rv ru own db dg place done tv):Fl (iE "done" (.int ((k:Nat):Int)) fs) rv ru own db dg place k tv:=by
 refine⟨?_,?_,?_,?_,?_,?_,?_,?_,λm hm=>?_,by rw[Y6 h.done];exact h.len⟩
 all_goals rw[qI]
 all_goals first|rw[A6 rfl]|(rw[A4 ()];first|exact h.rows|exact h.rule|exact h.own|exact h.boxes|exact h.place|exact h.done|exact h.given|exact h.there)|(rw[A4 (λe=>by subst e;revert hm;decide+kernel)];exact h.meth m hm)
end
nonrec def yo (C:o6)(H:Hp)(m:Mc)(r:Rn):Prop:=
 ∃(dx:o6) (fs:oq (Str×V)) (rv ru tv:V) (gv:oq V),H m.x=u_ (.ins C dx fs)/\Fl fs rv ru m.own m.db m.dg r.p r.n tv/\Is H (.tup (m.rs.map rowD)) rv/\Is H (yE m.rs) ru/\YC H m.db r.B/\H m.dg=u_ (.lst gv)/\L2.IsL H r.gs gv/\Is H r.th tv
structure Mv (m:Mc)(H H':Hp):Prop where
 kept:∀b o,H b=u_ o->b≠m.x->b≠m.db->b≠m.dg->H' b=u_ o
 tk:Tk H H'
def Mv.refl (m:Mc)(H:Hp):Mv m H H:=[λ_ _ e _ _ _=>e:Tk.refl H]
variable {H H1 H2:Hp}
def Mv.trans {m:Mc}(h:Mv m H H1)(h2:Mv m H1 H2):Mv m H H2:=[λb o e n1 O U=>h2.kept b o (h.kept b o e n1 O U) n1 O U:h.tk.trans h2.tk]
variable {H':Hp}
def Mv.of {m:Mc}(s:ig H H'):Mv m H H':=[λb o e _ _ _=>s b o e:s.tk]
variable {C:o6}
def yo.same {m:Mc}{r:Rn}(h:yo C H m r)(s:ig H H'):yo C H' m r:=
 let⟨dx,fs,rv,ru,tv,gv,e,f,i,j,b,g,gl,t⟩:=h;⟨dx,fs,rv,ru,tv,gv,s _ _ e,f,i.mono s.tk,j.mono s.tk,b.same s,s _ _ g,gl.mono s.tk,t.mono s.tk⟩
variable {dx:o6}
def YC.ne {x db:o6}{fs:oq (Str×V)}{B:Str->D}(e:H x=u_ (.ins C dx fs))(h:YC H db B):db≠x:=λz=>by
 erw[h,f,e2,_];rw[z,e] at e2;cases e2
variable {fs':oq (Str×V)}{rv:V}
def yg {m:Mc}{r:Rn}{fs:oq (Str×V)}{ru tv:V}{O:oq V}(e:H m.x=u_ (.ins C dx fs))(f:Fl fs' rv ru m.own m.db m.dg r.p r.n tv)(i:Is H (.tup (m.rs.map rowD)) rv)(j:Is H (yE m.rs) ru)(b:YC H m.db r.B)(U:H m.dg=u_ (.lst O))(Z:L2.IsL H r.gs O)(t:Is H r.th tv):
  yo C (upd H m.x (.ins C dx fs')) m r/\Mv m H (upd H m.x (.ins C dx fs')):=by
 have tk:Tk H (upd H m.x (.ins C dx fs')):=Tk.updI e;have n1:m.db≠m.x:=YC.ne e b;have n2:m.dg≠m.x:=λz=>by rw[z,e] at U;cases U
 exact⟨⟨dx,fs',rv,ru,tv,O,qg,f,i.mono tk,j.mono tk,b.move tk (qh n1),by rwa[qh n2],Z.mono tk,t.mono tk⟩,⟨λc o h a1 _ _=>by rwa[qh a1],tk⟩⟩
nonrec def Qx:D->Bool
 | .tup (.str w::_)=>decide (w="asks")
 |_=>V1
nonrec def Th (d:D):Prop:=d= .non∨∃w e,d= .tup [.str w,e]
inductive Out where
 |go (B:Str->D)(p:Int)|stop (e:D)
nonrec def Out.B (B:Str->D):Out->Str->D
 | .go B' _=>B'
 | .stop _=>B
nonrec def Out.P (p:Int):Out->Int
 | .go _ p'=>p'
 | .stop _=>p
nonrec def Out.T:Out->D
 | .go _ _=> .non
 | .stop e=>e
nonrec def W6 (B:Str->D)(z:Str)(e:D)(p:Int):Out:=match e with
 | .non=> .stop (flt "kind")
 |e=>if isT e=v_ then .go (l9 B z e) (p+1) else .stop (flt "big")
inductive SY (C:Addr):Sp
 |mk (m:Mc)(r:Rn)(_:vs= [.ref m.x])(_:yo C H m r)(_:∀v,Is H r.th v->Q v H)
inductive NC (C:Addr):Sp
 |mk (m:Mc)(r:Rn)(_:vs= [.ref m.x])(_:yo C H m r)(_:∀v H',ig H H'->Is H' (.tup r.gs) v->Q v H')
inductive Nc (C:Addr):Sp
 |mk (m:Mc)(r:Rn)(_:vs= [.ref m.x])(_:yo C H m r)(_:Th r.th)(_:Q (.bl (Qx r.th)) H)
inductive Nv (C:Addr):Sp
 |mk (m:Mc)(r:Rn)(z:Str)(v:V)(e:D)(_:vs= [.ref m.x,.str z,v])(_:yo C H m r)(_:r.th= .non)(_:z∈BX)(_:Is H e v)(_:∀H',Mv m H H'->yo C H' m ⟨(W6 r.B z e r.p).B r.B,(W6 r.B z e r.p).P r.p,r.n,r.gs,(W6 r.B z e r.p).T⟩->Q .non H')
section
variable {P:oh}{w:oj}{K:o0}{mg:Str->ot o7}{base:og}{a:Ad}{g:Ga}
def oG:#[T,1,a.XR,a.Xu,["self"],(SY a.ql)]:=by
 exists 9,T.iB,Wc,O
 erw[h,m,r,rfl,[dx,fs,rv,ru,tv,U,e,f,Z,iu,ib,hg,gl,it],k];exists 3,%[|#[qq,#[qO,5,pv 0,rfl]]]
 exact⟨0,m.x,_,dx,fs,tv,1,e,T.qp,T.qL,f.there,k _ it⟩
def OH:#[T,1,a.Jz,a.JH,["self"],(NC a.ql)]:=by
 exists 9,T.l6,Zr
 erw[h,m,r,rfl,[dx,fs,rv,ru,tv,U,e,f,ir,iu,ib,Z,gl,it],k];exists 3,%[|#[qq,#[qU,qX,T.QP,vw,#v[#[qO,5,pv 0,rfl]]]]]
 exact⟨0,m.x,_,dx,fs,0,e,T.qp,T.YF,f.given,m.dg,U,1,.inl [SqL.of Z:λl O=>k _ _ (qf O _) (Is.new gl O)]⟩
def kY:#[T,1,a.Yw,a.Yv,["self"],(Nc a.ql)]:=by
 exists 9,T.il,Jb
 erw[h,m,[B,p,n,gs,th],rfl,[dx,fs,rv,ru,tv,gv,e,f,ir,Z,ib,hg,gl,it],O,k];simp only at f ib gl it O k;exists 3,%[|#[qq,#[Za,#[Qg,xp,#[qO,5,pv 0,rfl],qQ],#[XE,#[Qg,QW,#[qF,Xs,#[qO,5,pv 0,rfl]],qm]]]]]
 exists 0,m.x,_,dx,fs,tv,1,e,T.qp,T.qL,f.there,1;rcases O with rfl|⟨w1,e1,rfl⟩
 ·cases(show tv= .non from it)
  exact[0:Qq () k]
 ·have U:=it;erw[U,t0,us,rfl,et,Z]
  exists 0,QI (by simp) ⟨0,m.x,_,dx,fs,0,e,T.qp,T.qL,f.there,?_⟩
  refine .inr (.inl (xG (i:=0) (d:= .str w1) it (qC (j:=0) rfl) λq hq=>?_));erw[hq,rfl,_]
  exists 1;have ew:decide (V.str w1=V.str ("asks":Str))=decide (w1="asks"):=by
   rw[vd];exact⟨λh=>by injection h,λh=>by rw[h]⟩
  rw[ew];exact k
def Oy:#[T,3,a.J3,a.J8,["self","box","tree"],(Nv a.ql)]:=by
 have yw:=#[jv,T];exists 9,T.mi,wF
 erw[h,m,[B,p,n,gs,th],z,v,d,rfl,[dx,fs,rv,ru,tv,gv,e,f,ir,iu,ib,hg,gl,it],aa,hz,O,k];simp only at f ib gl it aa k;subst aa;exists 3,%[|#[qM,#[qr,yl,pv 2,qQ],%[|#[Qe,#[qz,#v[qm,qm]]]],%[|#[qM,#[Qm,#[qZ,#[qu,yw,hr.mono (),T.li,#v[pv 2]]]],%[|#[Qe,#[qz,#v[qm,qm]]]],%[#[jj,#[qO,5,pv 0,rfl],pv 1,pv 2]|#[Jg,10,pv 0,qk,pX]]]]]]
 have two:(2:Nat)<=sizeLine:=by decide
 have st:∀{H:Hp} (z:Str),↑z<=100->Is H (.str z) (.str z):=λz hz=>[1:Ye ()]
 have fl:∀(z:Str) (H:Hp) (l:o6),↑z<=100->H l=U_->Is (upd H l (.tup [.str "fault",.str z])) (flt z) (.ref l):=λz H l hz U=>Is.new (ds:= [.str "fault",.str z]) ⟨_,0,st _ (),_,0,st _ hz,1⟩ U
 exists 0,1,0;have Z:↑fs<1000:=by have:=f.len;omega
 by_cases c:d= .non
 ·subst c;cases(show v= .non from O)
  refine QI () [two:λl U=>?_]
  have s1:ig H (upd H l (.tup [.str "fault",.str "kind"])):=qf U _
  exists 0,m.x,_,dx,fs,1,s1 _ _ e,T.qp,T.qL,Z;erw[yg (r:=⟨B,p,n,gs,flt "kind"⟩) (s1 _ _ e) (f.set_there (u:= .ref l)) (ir.mono s1.tk) (iu.mono s1.tk) (ib.same s1) (s1 _ _ hg) (gl.mono s1.tk) (fl "kind" H l () U),m1,m2]
  exact k _ ((Mv.of s1).trans m2) m1
 ·have hv:v≠ .non:=by
   rintro rfl;cases d with
   |non=>exact c rfl
   |bl b=>cases(show V.non= .bl b from O)
   |int i=>cases(show V.non= .int i from O)
   |str z=>erw[O,h,_];cases h
   |lst=>erw[O,_,_,h,_];cases h
   |dct=>erw[O,_,_,h,_];cases h
   |tup xs=>erw[O,_,_,h,_];cases h
  have eo:W6 B z d p=if isT d=v_ then .go (l9 B z d) (p+1) else .stop (flt "big"):=by
   cases d with
   |non=>exact A8 rfl c
   |_=>rfl
  rw[eo] at k;refine Qq (ug hv) ?_
  exists 0,v,d,1,O,λH1 s1=>[0:?_];cases ht:isT d with
  |false=>
   rw[ht] at k;refine lq [two:λl U=>?_];have s2:ig H (upd H1 l (.tup [.str "fault",.str "big"])):=s1.trans (qf U _)
   exists 0,m.x,_,dx,fs,1,s2 _ _ e,T.qp,T.qL,Z;erw[yg (r:=⟨B,p,n,gs,flt "big"⟩) (s2 _ _ e) (f.set_there (u:= .ref l)) (ir.mono s2.tk) (iu.mono s2.tk) (ib.same s2) (s2 _ _ hg) (gl.mono s2.tk) (fl "big" H1 l () U),m1,m2]
   exact k _ ((Mv.of s2).trans m2) m1
  |true=>
   rw[ht] at k;refine iU ?_;have ad:=O.mono s1.tk;erw[(ib.same s1).put hz ad,kvs,ac,ae,t2];have n1:m.db≠m.x:=YC.ne e ib;have n3:m.dg≠m.db:=λz=>by
    erw[ib,ff,e2,_];rw[z,e2] at hg;cases hg
   have e1:=s1 _ _ e;have e3:(upd H1 m.db (.dK kvs)) m.x=u_ (.ins a.ql dx fs):=by rwa[qh n1.symm]
   exists 0,0,m.x,_,dx,fs,0,e1,T.qp,T.Qt,f.boxes,0,m.db,0,ac
   exists 0,m.x,_,dx,fs,0,e3,T.qp,T.Qj,f.place,p,(1),1,1,dx,fs,e3,Z;obtain⟨m1,m2⟩:=yg (r:=⟨l9 B z d,p+1,n,gs,.non⟩) e3 (f.set_place (q:=p+1)) ((ir.mono s1.tk).mono t2) ((iu.mono s1.tk).mono t2) ae (by rw[qh n3];exact s1 _ _ hg) ((gl.mono s1.tk).mono t2) it
   exact k _ ((Mv.of s1).trans (Mv.trans ⟨λb o h _ a2 _=>by rwa[qh a2],t2⟩ m2)) m1
nonrec def MKR:oq Str:= ["text","self","copy","row","put","join","first","rest","size","cut","glue"]
nonrec def oT (ps:oq Pt):Int:=match ps.getLast? with
 |some (.n i)=>i
 |_=>0
nonrec def me (own:Str)(r:Rw)(B:Str->D)(p:Int):Out:=
 if r.1∈MKR then W6 B (b0 r.2) (made r.1 B own r.2) p else if r.1∈ASK then .stop (nu r.1 (B (b1 r.2))) else if r.1="say" then .stop (.tup [.str "said",B (b0 r.2)]) else
 if r.1="fault" then .stop (flt "told") else if Mu r.1 B r.2=v_ then .go B (oT r.2) else .go B (p+1)
def Abj:∀x∈FRM,x.1∈MKR->x.2.head? =u_ .box:=by decide+kernel
def ZO:∀x∈FRM,x.1∈ASK->x.1∉MKR/\x.1∈AbL/\x.2= [.box,.box]:=by decide+kernel
def AC:∀x∈FRM,x.1="say"->x.2= [.box]:=by decide+kernel
def ET:∀x∈FRM,x.1∈MKR∨(x.1∉MKR/\x.1∈AbL/\(x.1∈ASK∨x.1∉ASK/\(x.1="say"∨x.1="fault"∨x.1≠"say"/\x.1≠"fault"/\x.1∈JMP))):=by decide+kernel
def Pg:∀x∈FRM,x.1∈JMP->x.2.getLast? =u_ .line:=by decide+kernel
variable {r:Rw}
def AcK {m:Nat}(h:j8 n m r)(U:r.1∈MKR):∃z ps,r.2= .s z::ps/\z∈BX:=by
 erw[h,ks,Z,O];have:=Abj _ Z U
 match ks,O,this with
 | .box::ks,O,_=>
  match h2:r.2,O with
  | .s z::ps,O=>exact⟨z,ps,1,O.1⟩
  | .n _::_,O=>exact O.1.elim
def Wq {n m:Nat}:∀{ks:oq Kd}{ps:oq Pt},xS n m ks ps->ks.getLast? =u_ .line->∃qs i,ps=qs++ [.n i]/\1<=i/\i<=(n:Int)
 | [k],[p],h,e=>by
  cases e;cases p with
  |n i=>exact⟨[],i,1,h.1⟩
  |s z=>exact h.1.elim
 |k::k2::ks,p::p2::ps,h,e=>by
  rw[UQ] at e;erw[Wq (ks:=k2::ks) (ps:=p2::ps) h.2 e,qs,i,e2,hi];exact⟨p::qs,i,by rw[e2];rfl,hi⟩
 | [k],p::_::_,h,_=>h.2.elim
 |k::_::_,[p],h,_=>h.2.elim
 | [],[],_,e=>by cases e
 | [],_::_,h,_=>h.elim
 |_::_,[],h,_=>h.elim
def BG {m:Nat}(h:j8 n m r)(O:r.1∈JMP):∃qs i,r.2=qs++ [.n i]/\1<=i/\i<=(n:Int)/\oT r.2=i:=by
 erw[h,ks,U,Z];erw[Wq Z (Pg _ U O),qs,i,e,h1,h2];exists qs,i,e,h1,h2;unfold oT;rw[e,List.getLast?_concat]
inductive IY (C:Addr):Sp
 |mk (m:Mc)(r:Rn)(rw:Rw)(v:V)(k:Nat)(_:vs= [.ref m.x,v])(_:yo C H m r)(_:r.th= .non)(_:Tr r.B)(_:↑m.own<=100)(_:j8 k 300 rw)(_:Is H (rowD rw) v)(_:∀H',Mv m H H'->yo C H' m ⟨(me m.own rw r.B r.p).B r.B,(me m.own rw r.B r.p).P r.p,r.n,r.gs,(me m.own rw r.B r.p).T⟩->Q .non H')
def AcJ (T:Tx K mg a)(C:Fx K w mg g a){x:Str}(h:x∈MKR):∃f fd,PySem.W.nsIn K g.makers x=u_ (u_ (.ref f))/\FnOk P w K mg base CX0 1 f fd ["boxes","own","parts"] (XL x)/\xM K fd ["boxes","own","parts"] []/\PySem.W.keepIn K (.ref f)=true:=by
 simp![MKR,uH,uI,uS] at h;rcases h with rfl|rfl|rfl|rfl|rfl|rfl|rfl|rfl|rfl|rfl|rfl
 ·exact⟨_,_,C.k_text,Oi T,T.lr.b,T.lr.F.kp⟩
 ·exact⟨_,_,C.k_self,Ol T,T.lC.b,T.lC.F.kp⟩
 ·exact⟨_,_,C.k_copy,OE T,T.lK.b,T.lK.F.kp⟩
 ·exact⟨_,_,C.k_row,AaL T,T.lT.b,T.lT.F.kp⟩
 ·exact⟨_,_,C.k_put,AaM T,T.lV.b,T.lV.F.kp⟩
 ·exact⟨_,_,C.k_join,Ow T,T.lG.b,T.lG.F.kp⟩
 ·exact⟨_,_,C.k_first,KY T,T.ky.b,T.ky.F.kp⟩
 ·exact⟨_,_,C.k_rest,Op T,T.lE.b,T.lE.F.kp⟩
 ·exact⟨_,_,C.k_size,Oj T,T.lz.b,T.lz.F.kp⟩
 ·exact⟨_,_,C.k_cut,AaQ T,T.lX.b,T.lX.F.kp⟩
 ·exact⟨_,_,C.k_glue,Oz T,T.lJ.b,T.lJ.F.kp⟩
def K0:#[C,4,a.jW,a.jY,["self","row"],(IY a.ql)]:=by
 have ZA:=#[Ov,T];have Zt:=#[K7,T];have Wa:=#[Oy,T];exists 9,T.lR,y8
 erw[h,m,[B,p,n,gs,th],r,v,nn,rfl,M,af,hT,ho,ad,iv,k];simp only at af hT k;subst af;exists 3,%[#[qH,(2),y8.nd,#[qF,qA,pv 1]],#[qH,(3),y8.nd,#[qF,qA,pv 1]]|#[qM,#[qr,8,AaH,pv 2,#[pe_gR,C.m_MAKERS],#[w]],%[|#[qY,#[Qf,pv 0,T.qp,T.mi,Wa,#v[#[qF,qA,pv 3],#[KI,9,(1),5,⟨1,1,1,1,1⟩,#[qF,7,Ady,#[pe_gR,C.m_MAKERS],pv 2,(λ_ _=>rfl)],hr.mono (),#v[#[qO,5,pv 0,rfl],#[qO,5,pv 0,rfl],pv 3],_,_]]]]],%[|#[qM,#[qr,8,Q9,pv 2,#[pe_gR,C.m_ASKING],#[w]],%[|#[Qe,#[qu,Zt,hr.mono (),T.lQ,#v[pv 2,#[Qc,#[qO,5,pv 0,rfl],#[qF,qA,pv 3]]]]]],%[|#[qM,#[qr,QW,pv 2,qm],%[|#[Qe,#[qz,#v[qm,#[Qc,#[qO,5,pv 0,rfl],#[qF,qA,pv 3]]]]]],%[|#[qM,#[qr,QW,pv 2,qm],%[|#[Qe,#[qz,#v[qm,qm]]]],%[|#[qM,#[qZ,#[qu,ZA,hr.mono (),T.lZ,#v[#[qO,5,pv 0,rfl],pv 2,pv 3]]],%[|#[Qe,#[qF,7,qA,pv 3,#[Aay,6,LR,qk],(λ_ _=>rfl)]]],%[|#[Jg,10,pv 0,qk,pX]]]]]]]]]]]]
 have two:(2:Nat)<=sizeLine:=by decide
 erw[r,U,ps];erw[iv,t0,us,rfl,et,iu];erw[iu,v1,u1,rfl,[rfl,aq],v2,u2,rfl,i2,e2];cases(show u2= [] from e2)
 exists 0,t0,_,(0),0,1,SqT.of et,1
 exists 0,t0,_,(1),0,1,SqT.of et,1;erw[id i2,t1,au,rfl,aw,ax];have ac:Iw H t1 ps:=i2;have al:=ad;erw[al,ks,hk,hp];have hM:=M;erw[hM,dx,fs,rv,ru,tv,gv,e,f,ir,ij,ib,hg,gl,it];simp only at f ib gl it;have ae:↑fs<1000:=by have:=f.len;omega
 rcases ET _ hk with Z|⟨Z,am,aa⟩
 ·erw[AcJ (P:=P) (base:=base) T C Z,fa,fd,hn,hF,hb,ao];erw[AcK ad Z,z,qs,rfl,ap];have eo:me m.own (U,.s z::qs) B p=W6 B z (made U B m.own (.s z::qs)) p:=by unfold me;rw[A6 Z];rfl
  rw[eo] at k
  exists 0,U,g.makers,0,1,C.km,hn,0;refine lq ?_
  exists 0,m.x,dx,fs,1,e,f.meth _ (),0
  try dsimp![tC]
  refine Ir (i:=0) ac rfl ?_
  exists 0,U,g.makers,_,.ref fa,1,1,C.km,hn,1,fa,fd,_,XL U,1,hF,hb,ao
  exists 0,m.x,_,dx,fs,0,e,T.qp,T.Qt,f.boxes,0,m.x,_,dx,fs,0,e,T.qp,T.Xi,f.own,0
  exists m.db,t1,m.own,B,.s z::qs,nn,1,ib,hT,ho,ad,ac,λv H1 s1 hv=>?_;exact⟨m,⟨B,p,n,gs,.non⟩,z,v,0,M.same s1,1,ap,hv,λH2 m2 M2=>k H2 ((Mv.of s1).trans m2) M2⟩
 ·exists 0,U,g.makers,0,1,C.km,C.k_no _ am,0;refine iU ?_
  exists 0,g.asking,0,.inr (C.asking _),1,1,0;have ei:inV (.str U) [.str "ask",.str "has",.str "names"]=decide (U∈ASK):=xT (z:=U) (l:=ASK);rw[A4 ub,ei];rcases aa with O|⟨O,aa⟩
  ·refine QI (uh O) ?_;erw[ZO _ hk O,_,_,ek];simp only at ek;subst ek;erw[wb hp,z0,z1,rfl,h0,h1];have eo:me m.own (U,[.s z0,.s z1]) B p= .stop (nu U (B z1)):=by unfold me;rw[A4 Z,A6 O];rfl
   rw[eo] at k
   exists 0,0,m.x,_,dx,fs,0,e,T.qp,T.Qt,f.boxes,0
   try dsimp![tC]
   refine ny (i:=1) ib ac rfl h1 λv hv=>?_
   exists U,v,B z1,1,O,hv,λu H1 s1 hu=>?_
   exists 0,m.x,_,dx,fs,1,s1 _ _ e,T.qp,T.qL,ae;erw[yg (r:=⟨B,p,n,gs,nu U (B z1)⟩) (s1 _ _ e) (f.set_there (u:=u)) (ir.mono s1.tk) (ij.mono s1.tk) (ib.same s1) (s1 _ _ hg) (gl.mono s1.tk) hu,m1,m2];exact k _ ((Mv.of s1).trans m2) m1
  ·refine Qq (ug O) ?_
   exists 0,1,0;have es:∀y:Str,decide (V.str U=V.str y)=decide (U=y):=λy=>by
    rw[vd];exact⟨λh=>by injection h,λh=>by rw[h]⟩
   rcases aa with rfl|rfl|⟨hs,hf,hj⟩
   ·refine QI (uh rfl) ?_;have ek:=AC _ hk rfl;simp only at ek;subst ek;erw[Acq hp,z0,rfl,h0];have eo:me m.own ("say",[.s z0]) B p= .stop (.tup [.str "said",B z0]):=by unfold me;rw[A4 Z,A4 O,A6 rfl];rfl
    rw[eo] at k
    exists 0,m.x,_,dx,fs,0,e,T.qp,T.Qt,f.boxes,0
    try dsimp![tC]
    refine ny (i:=0) ib ac rfl h0 λv hv=>?_
    exists two,λl hl=>?_;have s1:ig H (upd H l (.tup [.str "said",v])):=qf hl _
    exists 0,m.x,_,dx,fs,1,s1 _ _ e,T.qp,T.qL,ae;erw[yg (r:=⟨B,p,n,gs,.tup [.str "said",B z0]⟩) (s1 _ _ e) (f.set_there (u:= .ref l)) (ir.mono s1.tk) (ij.mono s1.tk) (ib.same s1) (s1 _ _ hg) (gl.mono s1.tk) (Is.new (ds:= [.str "said",B z0]) ⟨_,0,[1:Ye ()],_,0,hv,1⟩ hl),m1,m2]
    exact k _ ((Mv.of s1).trans m2) m1
   ·have ag:¬(("fault":Str)="say"):=by decide+kernel
    refine Qq (ug λh=>ag (by injection h)) ?_
    exists 0,1,0,QI (uh rfl) ?_;have eo:me m.own ("fault",ps) B p= .stop (flt "told"):=by unfold me;rw[A4 Z,A4 O,A4 ag,A6 rfl]
    rw[eo] at k
    exists two,λl hl=>?_;have s1:ig H (upd H l (.tup [.str "fault",.str "told"])):=qf hl _
    exists 0,m.x,_,dx,fs,1,s1 _ _ e,T.qp,T.qL,ae;erw[yg (r:=⟨B,p,n,gs,flt "told"⟩) (s1 _ _ e) (f.set_there (u:= .ref l)) (ir.mono s1.tk) (ij.mono s1.tk) (ib.same s1) (s1 _ _ hg) (gl.mono s1.tk) (Is.new (ds:= [.str "fault",.str "told"]) ⟨_,0,[1:Ye ()],_,0,[1:Ye ()],1⟩ hl),m1,m2]
    exact k _ ((Mv.of s1).trans m2) m1
   ·refine Qq (by rw[es];exact ug hs) ?_
    exists 0,1,0,Qq (by rw[es];exact ug hf) ?_
    have eo:me m.own (U,ps) B p=if Mu U B ps=v_ then .go B (oT ps) else .go B (p+1):=by unfold me;rw[A4 Z,A4 O,A4 hs,A4 hf]
    rw[eo] at k;erw[BG ad hj,qs,i,ah,h1,h2,hl];simp only at ah hl
    exists 0,m.x,_,dx,fs,0,e,T.qp,T.Qt,f.boxes,0,0,m.db,t1,U,B,ps,nn,1,ib,hT,hj,ad,ac,0;cases ak:Mu U B ps with
    |true=>
     rw[ak] at k;refine lq ⟨0,(1),1,?_⟩;refine xG (i:= -1) (d:= .int i) ac (by rw[ah,um];exact kZ _ _) λq hq=>?_
     cases(show q= .int i from hq)
     exists 0,m.x,_,dx,fs,1,e,T.qp,T.Qj,ae;erw[yg (r:=⟨B,i,n,gs,.non⟩) e (f.set_place (q:=i)) ir ij ib hg gl it,m1,m2];refine k _ m2 ?_;show yo _ _ _ ⟨B,oT ps,n,gs,.non⟩;rwa[hl]
    |false=>
     rw[ak] at k;refine iU ⟨0,m.x,_,dx,fs,0,e,T.qp,T.Qj,f.place,p,(1),1,1,dx,fs,e,ae,?_⟩;erw[yg (r:=⟨B,p+1,n,gs,.non⟩) e (f.set_place (q:=p+1)) ir ij ib hg gl it,m1,m2];exact k _ m2 m1
nonrec def Yp (rs:oq Rw)(p:Int):Rw:=rs.getD (p.toNat-1) ("fault",[])
nonrec def mn (rs:oq Rw)(own:Str)(gs:oq D):Nat->(Str->D)->Int->Nat->Rn
 |0,B,p,n=>⟨B,p,n,gs,if p>↑rs then flt "silent" else flt "long"⟩
 |f+1,B,p,n=>if p>↑rs then⟨B,p,n,gs,flt "silent"⟩ else match me own (Yp rs p) B p with
  | .go B' p'=>mn rs own gs f B' p' (n+1)
  | .stop e=>⟨B,p,if Qx e=v_ then n else n+1,gs,e⟩
variable {rs:oq Rw}
def DG {p:Int}(h1:1<=p)(h2:p<=↑rs):rs[p.toNat-1]? =u_ (Yp rs p):=by
 unfold Yp;have h:p.toNat-1<↑rs:=by omega
 simp[VP,h]
def kr {p:Int}(h1:1<=p)(h2:p<=↑rs):Yp rs p∈rs:=uN (DG h1 h2)
variable {e:D}
def kl {B:Str->D}(h:Tr B)(O:isT e=v_):Tr (l9 B z e):=λy U=>by
 unfold l9;by_cases c:y=z
 ·rwa[A6 c]
 ·rw[A4 c];exact h y U
nonrec def PP (n:Int):Out->Prop
 | .go B p=>Tr B/\1<=p/\p<=n+1
 | .stop e=>∃w d,e= .tup [.str w,d]
def Lp {B:Str->D}{p n:Int}(h:Tr B)(h1:1<=p)(h2:p<=n):PP n (W6 B z e p):=by
 have O:PP n (if isT e=v_ then .go (l9 B z e) (p+1) else .stop (flt "big")):=by
  by_cases c:isT e=v_
  ·rw[A6 c];exact[kl h c:():()]
  ·rw[A4 c];exact[_:0]
 cases e with
 |non=>exact[_:0]
 |_=>exact O
def PD (w:Str)(d:D):∃u e,nu w d= .tup [.str u,e]:=by
 unfold nu;split
 ·split
  ·exact[_:0]
  ·exact[_:0]
 ·split
  ·exact[_:0]
  ·exact[_:0]
variable {own:Str}
def Ai {B:Str->D}{p:Int}(hr:j8 n 300 r)(h:Tr B)(h1:1<=p)(h2:p<=n):PP n (me own r B p):=by
 unfold me;by_cases O:r.1∈MKR
 ·rw[A6 O];exact Lp h h1 h2
 rw[A4 O];by_cases U:r.1∈ASK
 ·rw[A6 U];exact PD _ _
 rw[A4 U];by_cases Z:r.1="say"
 ·rw[A6 Z];exact[_:0]
 rw[A4 Z];by_cases c4:r.1="fault"
 ·rw[A6 c4];exact[_:0]
 rw[A4 c4];by_cases c5:Mu r.1 B r.2=v_
 ·rw[A6 c5];erw[id hr,ks,hk,hp];have hj:r.1∈JMP:=by
   rcases ET _ hk with q|⟨_,_,q|⟨_,q|q|q⟩⟩
   ·exact A8 q O
   ·exact A8 q U
   ·exact A8 q Z
   ·exact A8 q c4
   ·exact q.2.2
  erw[BG hr hj,qs,i,_,a1,a2,a3];exact⟨h,by rwa[a3],by rw[a3];omega⟩
 ·rw[A4 c5];exact[h:():()]
inductive Nw (C:Addr):Sp
 |mk (m:Mc)(r:Rn)(_:vs= [.ref m.x])(_:yo C H m r)(_:r.th= .non)(_:Tr r.B)(_:↑m.own<=100)(_:QL m.rs)(_:1<=r.p)(_:r.p<=↑m.rs+1)(_:r.n<=300)(_:∀(H':Hp),Mv m H H'->yo C H' m (mn m.rs m.own r.gs (300-r.n) r.B r.p r.n)->Q .non H')
def Ed:#[C,5,a.Ji,a.Jo,["self"],(Nw a.ql)]:=by
 have Zq:=#[K0,T,C];have qW:=#[kY,T];exists 9,T.iX,Zp
 erw[h,[x,db,dg,rs,own],[B0,p0,n0,gs,th],rfl,M0,aw,ax,ho,hR,aE,ay,aF,k];simp only at aw ax ho hR aE ay aF k;subst aw;exists 3,%[|#[Xr,#[qr,yl,#[qO,5,pv 0,rfl],qQ],%[|#[qM,#[qr,oE,#[qO,5,pv 0,rfl],#[qD,qR,T.Yg,uQ,#v[#[qO,5,pv 0,rfl]]]],%[|#[Qe,#[qz,#v[qm,qm]]]],%[|#[qM,#[qr,QW,#[qO,5,pv 0,rfl],#[kJ,T.m_MOST_DONE]],%[|#[Qe,#[qz,#v[qm,qm]]]],%[#[qY,#[Qf,pv 0,T.qp,T.lR,Zq,#v[#[qF,7,qA,#[qO,5,pv 0,rfl],#[QC,Mh,#[qO,5,pv 0,rfl],qk],(λ_ _=>rfl)]]]]|#[qM,#[Qm,#[qZ,#[QE,pv 0,T.qp,T.il,qW]]],%[|#[Jg,10,pv 0,qk,pX]],qv]]]]]]]]
 have two:(2:Nat)<=sizeLine:=by decide
 have n1:=hR.n1;generalize aA:mn rs own gs (300-n0) B0 p0 n0=res at k
 let J1_:Nat->L2.St->Hp->Prop:=λm σ H'=>∃(B:Str->D) (p:Int) (n:Nat) (th:D),σ= [u_ (.ref x)]/\yo a.ql H' ⟨x,db,dg,rs,own⟩ ⟨B,p,n,gs,th⟩/\Mv ⟨x,db,dg,rs,own⟩ H H'/\Tr B/\1<=p/\p<=↑rs+1/\n<=300/\((th= .non/\mn rs own gs (300-n) B p n=res/\m=301-n)∨((∃u e,th= .tup [.str u,e])/\⟨B,p,n,gs,th⟩=res/\m=0))
 exists J1_,⟨_,B0,p0,n0,.non,1,M0,Mv.refl _ _,ax,(),(),(),.inl [1:aA:1]⟩
 rintro m σ H' ⟨B,p,n,th,rfl,M,mv,hT,ad,al,hn,hc⟩;have hM:=M;erw[hM,dx,fs,rv,ru,tv,gv,e,f,ir,ij,ib,hg,gl,it];simp only at e f ir ij ib hg gl it;have aB:↑fs<1000:=by have:=f.len;omega
 exists 0,x,_,dx,fs,tv,1,e,T.qp,T.qL,f.there,1,0;rcases hc with⟨rfl,Z,rfl⟩|⟨⟨u,d,rfl⟩,Z,rfl⟩
 ·cases(show tv= .non from it)
  have ag:∀{H:Hp},Is H .non .non:=rfl;refine QI () ?_
  exists λσ' H2=>∃(B:Str->D) (p:Int) (n2:Nat) (th:D),σ'= [u_ (.ref x)]/\yo a.ql H2 ⟨x,db,dg,rs,own⟩ ⟨B,p,n2,gs,th⟩/\Mv ⟨x,db,dg,rs,own⟩ H H2/\Tr B/\1<=p/\p<=↑rs+1/\n2<=300/\((th= .non/\mn rs own gs (300-n2) B p n2=res/\n<n2)∨((∃u e,th= .tup [.str u,e])/\⟨B,p,n2,gs,th⟩=res)),?_,?_
  ·rintro σ' H2 ⟨B2,p2,n2,aM,rfl,M2,ae,aC,a1,a2,a3,aG⟩;rcases aG with⟨rfl,q1,q2⟩|⟨q0,q1⟩
   ·exact⟨301-n2,(),B2,p2,n2,0,M2,ae,aC,a1,a2,a3,.inl [1:q1:1]⟩
   ·exact⟨(0),(),B2,p2,n2,0,M2,ae,aC,a1,a2,a3,.inr [q0:q1:1]⟩
  ·have aH:=ir;erw[aH,ta,us,rfl,aI,iu];have aN:↑us=↑rs:=by rw[↑iu,u9]
   have fl:∀(z:Str) (H:Hp) (l:o6),↑z<=100->H l=U_->Is (upd H l (.tup [.str "fault",.str z])) (flt z) (.ref l):=λz H l hz hl=>Is.new (ds:= [.str "fault",.str z]) ⟨_,0,[1:Ye ()],_,0,[1:Ye ()],1⟩ hl
   have aa:∀(z:Str),↑z<=100->⟨B,p,n,gs,flt z⟩=res->∀l,H' l=U_->(λH2=>∃(B:Str->D) (p:Int) (n2:Nat) (th:D),[u_ (V.ref x)]= [u_ (V.ref x)]/\yo a.ql H2 ⟨x,db,dg,rs,own⟩ ⟨B,p,n2,gs,th⟩/\Mv ⟨x,db,dg,rs,own⟩ H H2/\Tr B/\1<=p/\p<=↑rs+1/\n2<=300/\((th= .non/\mn rs own gs (300-n2) B p n2=res/\n<n2)∨((∃u e,th= .tup [.str u,e])/\⟨B,p,n2,gs,th⟩=res))) (upd (upd H' l (.tup [.str "fault",.str z])) x (.ins a.ql dx (iE "there" (.ref l) fs))):=by
    intro z hz aJ l hl;have s1:ig H' (upd H' l (.tup [.str "fault",.str z])):=qf hl _;erw[yg (m:=⟨x,db,dg,rs,own⟩) (r:=⟨B,p,n,gs,flt z⟩) (s1 _ _ e) (f.set_there (u:= .ref l)) (ir.mono s1.tk) (ij.mono s1.tk) (ib.same s1) (s1 _ _ hg) (gl.mono s1.tk) (fl z H' l hz hl),m1,m2];exact⟨B,p,n,flt z,1,m1,mv.trans ((Mv.of s1).trans m2),hT,ad,al,hn,.inr [[_:0]:aJ]⟩
   exists 0,x,_,dx,fs,0,e,T.qp,T.Qj,f.place,0,x,_,dx,fs,0,e,T.qp,T.y9,f.rows,ta,us,1,.inr (SqT.of aI),_,0,1,0;refine nj (λc=>?_) (λc=>?_)
   ·have c':p>↑rs:=by have:=uq c;omega
    have er:⟨B,p,n,gs,flt "silent"⟩=res:=by
     rw[<-Z];cases h3:300-n with
     |zero=>unfold mn;rw[A6 c']
     |succ q=>unfold mn;rw[A6 c']
    exists two,λl hl=>?_;have s1:ig H' (upd H' l (.tup [.str "fault",.str "silent"])):=qf hl _;exact⟨0,x,_,dx,fs,1,s1 _ _ e,T.qp,T.qL,aB,aa "silent" () er l hl⟩
   ·have c':¬p>↑rs:=λh=>c (uh ())
    exists 0,x,_,dx,fs,0,e,T.qp,T.Q8,f.done,1,0;refine nj (λc2=>?_) (λc2=>?_)
    ·have e3:n=300:=by have:=uq c2;injection this with h;omega
     have er:⟨B,p,n,gs,flt "long"⟩=res:=by
      rw[<-Z,e3];show _=mn rs own gs 0 B p 300;unfold mn;rw[A4 c']
     exists two,λl hl=>?_;have s1:ig H' (upd H' l (.tup [.str "fault",.str "long"])):=qf hl _;exact⟨0,x,_,dx,fs,1,s1 _ _ e,T.qp,T.qL,aB,aa "long" () er l hl⟩
    ·have e3:n<300:=by
      rcases GR n 300 with h|h
      ·exact h
      ·exact A8 (uh (by rw[show n=300 by omega];rfl)) c2
     have am:p<=↑rs:=by omega
     have aD:=hR.ok _ (kr ad am);have hok:=Ai (own:=own) aD hT ad am;have U:res=match me own (Yp rs p) B p with
       | .go B' p'=>mn rs own gs (300-(n+1)) B' p' (n+1)
       | .stop e=>⟨B,p,if Qx e=v_ then n else n+1,gs,e⟩:=by
      rw[<-Z,show 300-n=(300-(n+1))+1 by omega,mn,A4 c']
     exists 0,x,dx,fs,1,e,f.meth _ ()
     exists 0,x,_,dx,fs,0,e,T.qp,T.y9,f.rows,0,x,_,dx,fs,0,e,T.qp,T.Qj,f.place,_,0,1;have aK:atI (rs.map rowD) (p-1)=u_ (rowD (Yp rs p)):=by
      rw[show p-1=((p.toNat-1:Nat):Int) by omega]
      exact qC (by rw[uC,DG ad am];rfl)
     refine xG (d:=rowD (Yp rs p)) ir aK λq hq=>?_
     exists ⟨x,db,dg,rs,own⟩,⟨B,p,n,gs,.non⟩,Yp rs p,q,↑rs,1,M,1,hT,ho,aD,hq,λH2 m2 M2=>?_;have aL:=M2;erw[aL,af,ac,aO,aP,aQ,aR,e2,f2,ao,ap,ah,aq,au,ag];simp only at e2 f2 ao ap ah aq au ag;have ak:↑ac<1000:=by have:=f2.len;omega
     have ae:=mv.trans m2;generalize hO:me own (Yp rs p) B p=O at hok U M2 ag ah f2;cases O with
     |go B' p'=>
      erw[hok,q1,q2,q3]
      exists 0,x,af,ac,1,e2,f2.meth _ (),_,0,M2,.inl rfl,0
      refine QI rfl ?_
      exists 0,x,_,af,ac,0,e2,T.qp,T.Q8,f2.done,(n:Int),(1),1,1,af,ac,e2,ak;erw[yg (m:=⟨x,db,dg,rs,own⟩) (r:=⟨B',p',n+1,gs,.non⟩) e2 (f2.set_done (k:=n+1)) ao ap ah aq au ag,m3,m4];exact⟨B',p',n+1,.non,1,m3,ae.trans m4,q1,q2,q3,(),.inl [1:U.symm:()]⟩
     |stop d=>
      erw[hok,u,d2,rfl]
      exists 0,x,af,ac,1,e2,f2.meth _ (),_,0,M2,.inr [_:0],0
      cases hw:Qx (.tup [.str u,d2]) with
      |true=>
       simp![hw] at U;refine Qq (by show(!Qx (.tup [.str u,d2]))=V1;rw[hw];rfl) ?_
       exact⟨B,p,n,0,M2,ae,hT,ad,al,hn,.inr [[_:0]:U.symm]⟩
      |false=>
       simp![hw] at U;refine QI (by show(!Qx (.tup [.str u,d2]))=v_;rw[hw];rfl) ?_
       exists 0,x,_,af,ac,0,e2,T.qp,T.Q8,f2.done,(n:Int),(1),1,1,af,ac,e2,ak;erw[yg (m:=⟨x,db,dg,rs,own⟩) (r:=⟨B,p,n+1,gs,.tup [.str u,d2]⟩) e2 (f2.set_done (k:=n+1)) ao ap ah aq au ag,m3,m4];exact⟨B,p,n+1,0,m3,ae.trans m4,hT,ad,al,(),.inr [[_:0]:U.symm]⟩
 ·have:tv≠ .non:=by erw[it,_,_,h,_];rw[h];exact λz=>by cases z
  refine Qq (ug this) ?_;refine k H' mv ?_;rw[<-Z];exact M
nonrec def emp (z:Str):D:= .tup [.str z,.str ""]
def Md {H:Hp}:∀{zs:oq Str}{ys:oq V},L2.IsL H (zs.map emp) ys->∃ts:oq o6,ys=ts.map V.ref/\↑ts=↑zs/\∀(i:Nat) (t:o6) (z:Str),ts[i]? =u_ t->zs[i]? =u_ z->H t=u_ (.tup [.str z,.str ""])
 | [],_,h=>by
  cases(show _= [] from h)
  exact⟨[],1,1,λi t z h=>by simp at h⟩
 |y::zs,_,h=>by
  erw[h,v,r,rfl,[t,us,rfl,O,v1,u1,rfl,[rfl,_],v2,U,rfl,[rfl,_],e2],h2];cases(show U= [] from e2)
  erw[Md h2,ts,rfl,Z,hi];refine⟨t::ts,1,by rw[uB,Z];rfl,λi q z h1 h3=>?_⟩
  cases i with
  |zero=>
   cases h1;cases h3;exact O
  |succ j=>exact hi j q z (by simpa using h1) (by simpa using h3)
variable {ys:oq V}
def NX {A:o6}(e:H A=u_ (.lst ys))(h:L2.IsL H (BX.map emp) ys):BZ H A (BX.map λz=>(z,V.str "")):=by
 erw[Md h,ts,rfl,O,hi];exists ts,e,by rw[O,u9],λi t p h1 h2=>?_
 rw[uC] at h2;cases hz:BX[i]? with
 |none=>rw[hz] at h2;cases h2
 |some z=>
  rw[hz] at h2;cases h2;exact hi i t z h1 hz
nonrec def B0:Str->D:=λ_=> .str ""
def Px {q:o6}(O:H q=U_):YC (upd H q (.dK (lh (BX.map λz=>(z,V.str ""))))) q B0:=by
 exists λ_=> .str "",?_,λz _=>[1:Ye ()]
 rw[qg];unfold lh kvB;rw[uO]
 rfl
def P7:Tr B0:=λ_ _=>(by decide+kernel:isT (.str "")=v_)
def LF:((BX.map λz=>(z,V.str "")).map (·.1)).Nodup:=by
 rw[uO];show(BX.map id).Nodup;rw[GM]
 decide+kernel
def DL (f:Str)(v:V):∀fs:oq (Str×V),↑(iE f v fs)<=↑fs+1
 | []=>uA _
 |(g,x)::r=>by
  unfold iE;by_cases c:g=f
  ·rw[A6 c];simp
  ·rw[A4 c];have:=DL f v r;simp![uB];omega
nonrec def FLD:oq Str:= ["rows","rule","own","boxes","place","done","given","there"]
def OV:∀m∈MTH,m∉FLD:=by decide+kernel
variable {v:V}
def MH {db dg:o6}(O:(iE "there" .non (iE "given" (.ref dg) (iE "done" (.int 0) (iE "place" (.int 1) (iE "boxes" (.ref db) (iE "own" (.str own) (iE "rule" v (iE "rows" rv [])))))))).length<=20):
  Fl (iE "there" .non (iE "given" (.ref dg) (iE "done" (.int 0) (iE "place" (.int 1) (iE "boxes" (.ref db) (iE "own" (.str own) (iE "rule" v (iE "rows" rv [])))))))) rv v own db dg 1 0 .non:=by
 exists ?_,?_,?_,?_,?_,?_,?_,?_,λm hm=>?_,O
 ·iterate 7 rw[qI,A4 ()]
  rw[qI,A6 rfl]
 ·iterate 6 rw[qI,A4 ()]
  rw[qI,A6 rfl]
 ·iterate 5 rw[qI,A4 ()]
  rw[qI,A6 rfl]
 ·iterate 4 rw[qI,A4 ()]
  rw[qI,A6 rfl]
 ·iterate 3 rw[qI,A4 ()]
  rw[qI,A6 rfl]
 ·iterate 2 rw[qI,A4 ()]
  rw[qI,A6 rfl]
  rfl
 ·rw[qI,A4 (),qI,A6 rfl]
 ·rw[qI,A6 rfl]
 ·have h:=OV m hm
  iterate 8 rw[qI,A4 (λe=>h (by rw[e];decide+kernel))]
  rfl
structure Ini (n:Nat)(H:Hp)(C x dx:o6)(fs:oq (Str×V))(H':Hp):Prop where
 len:↑fs<=n
 at':H' x=u_ (.ins C dx fs)
 kept:∀b o,H b=u_ o->b≠x->H' b=u_ o
def Ini.put {x:o6}{fs:oq (Str×V)}(I:Ini n H C x dx fs H')(f:Str)(v:V):Ini (n+1) H C x dx (iE f v fs) (upd H' x (.ins C dx (iE f v fs)))/\Tk H' (upd H' x (.ins C dx (iE f v fs))):=
 ⟨⟨vg (DL f v fs) (tO I.len),qg,λb o h n=>by rw[qh n];exact I.kept b o h n⟩,Tk.updI I.at'⟩
def Ini.same {x:o6}{fs:oq (Str×V)}(I:Ini n H C x dx fs H')(s:ig H' H2):Ini n H C x dx fs H2:=[I.len:s _ _ I.at':λb o h n=>s _ _ (I.kept b o h n)]
def Aa3 {K:o0}{b A:o6}{H1:Hp}{te:TE}{tl:L2.St}{Q:VK}(O:∀H,SqT K H b (BX.map V.str))(Z:H1 A=U_)
  (U:∀(z:Str) H (R:VK),↑z<=V5->ig H1 H->(∀y H',ig H H'->Is H' (emp z) y->R y H')->te (u_ (.str z)::tl) H R)
  (hQ:∀H' ys,ig H1 H'->H' A=u_ (.lst ys)->L2.IsL H' (BX.map emp) ys->Q (.ref A) H'):CS A (Itt K b) (YV 0) sS te (U_::tl) H1 Q:=by
 have hl:∀H,L2.IsL H (BX.map D.str) (BX.map V.str):=λH=>IsL.ofStrs λz hz=>Ye (by rw[(MM hz).1];decide)
 refine Et (ds:=BX.map D.str) (λd=>match d with| .str z=>emp z|d=>d) (Ye ()) Z (λi H sm hi=>⟨BX.map V.str,(BX.map V.str)[i]'(by simpa using hi),O H,uc _⟩) (λi H x H' d sm hd y=>?_) (λH sm=>⟨BX.map V.str,O H,by simp⟩) (λd x H R hd sm hx r=>?_) (λH' ys sm e h=>hQ H' ys sm e ?_)
 ·erw[y,rfl,y];erw[(hl H').get hd,v,e1,e2];have:=y _ (O H');rw[e1] at this;cases this;exact[1:e2]
 ·erw[Ae.mp hd,z,_,rfl];erw[hx,rfl,hz];exact U z H R hz sm r
 ·rwa[uO] at h
def Lo:∀{d:D},my d=v_->∃own,d= .str own/\nm own=v_/\↑own<=100
 | .str z,h=>⟨z,1,h,by
  rcases GR 24 ↑z with h1|h1
  ·rw[show my (.str z)=nm z from rfl,Bx (λq=>by omega)] at h
   cases h
  ·omega⟩
def sK {n:Nat}:∀{ds:oq D},ds.all (λd=>(Qn n d).isSome)=v_->((ds.filterMap (Qn n)).map λr=>D.str (yM r))=ds/\↑(ds.filterMap (Qn n))=↑ds/\∀r∈ds.filterMap (Qn n),j8 n 300 r
 | [],_=>⟨1,1,λr h=>by simp at h⟩
 |d::ds,h=>by
  rw[vM,uG] at h;erw[Xh h.1,r,O];erw[sK h.2,Z,i2,i3];cases d with
  |str z=>
   obtain⟨h1,h2⟩:=Bc (show wk n z=u_ r from O)
   rw[Ub O];exists by rw[uD,h2,Z],by rw[uB,uB,i2],λx U=>?_
   rcases Aa.mp U with rfl|U
   ·exact h1
   ·exact i3 x U
  |_=>cases O
def Bf:∀{d:D}{rs:oq Rw},QK d=u_ rs->QL rs/\d=yE rs
 | .tup ds,rs,h=>by
  rw[Xv] at h;split at h
  ·rename_i O
   cases h;simp![uG,vi] at O;erw[O,[[h1,h2],h3],h4];erw[sK h3,U,Z,i3];have e:yE (ds.filterMap (Qn ↑ds))= .tup ds:=A9 D.tup U;exact⟨⟨(),(),λr hr=>by rw[Z];exact i3 r hr,by rwa[e]⟩,e.symm⟩
  ·cases h
inductive k8 (C br bn:Addr)(vs:List V)(H:Hp)(Q:VK)(E:XK):Prop
 |mk (x dx:Addr)(v ov:V)(d od:D)(_:vs= [.ref x,v,ov])(_:H x=u_ (.ins C dx []))(_:Is H d v)(_:Is H od ov)(_:(QK d=U_->∀(e:Addr)(H':Hp),(∀b o,H b=u_ o->b≠x->H' b=u_ o)->E (.ref e) (u_ br) H'))(_:(QK d≠U_->my od=V1->∀(e:Addr)(H':Hp),(∀b o,H b=u_ o->b≠x->H' b=u_ o)->E (.ref e) (u_ bn) H'))(_:(∀(rs:List Rw)(own:Str),d=yE rs->QL rs->od= .str own->nm own=v_->↑own<=100->∀(H':Hp)(db dg:Addr),(∀b o,H b=u_ o->b≠x->H' b=u_ o)->H db=U_->H dg=U_->yo C H' ⟨x,db,dg,rs,own⟩ (mn rs own [] 300 B0 1 0)->Q .non H'))
def W7 (T:Tx K mg a)(C:Fx K w mg g a):FnOk P w K mg base (CX1 P w) 6 a.jm a.J0 ["self","rule","own"] (k8 a.ql g.br g.bn):=by
 have QG:=#[xw,T];have O:=#[Om,T,C];have YT:=#[Ed,T,C];refine T.iQ.F.okX ZG () (λ_ _ _ _ H _ Q E hr h=>?_)
 erw[h,x,dx,v,ov,d,od,rfl,hx,hv,ho,kR,kN,k];exists 3,%[#[Qe,#[qu,16,O,hr.mono (),_,T.lD.m,T.lD.F.kp,T.lD.b,.nil,AaD,#v[pv 1],_,_,_]],#[qM,#[Qm,#[qZ,#[qu,QG,hr.mono (),T.iM,#v[pv 2]]]],%[|#[W1,22,C.x_BadName,_,C.m_BadName,qm,_,_]],qv],#[Qe,pv 1],#[Qe,pv 2],#[Qe,#[qU,#[CI,1,rfl],T.z_dict,boot_dict,#v[#[wB,["box"],(1),[],OZ,#[wc,#[pe_gR,C.m_BOXES]],(λ_ _ _ _ _ _=>#[qN,(0),(show Vi (["box"]:oq Str) by decide+kernel)]),(λ_ _ _ _ _ _=> @yS _),(λ_ _ _ _ _ _=>#[qz,#v[pv 0,qm]])]]]],#[Qe,qk],#[Qe,qk],#[Qe,#[Y4,qd]],#[Qe,qQ]|#[qY,#[QE,pv 0,T.qp,T.iX,YT]]]
 exists 0,v,d,1,hv,λrs al rv H1 s1 ir=>?_,λhn e H1 s1=>kR hn e H1 λb o h _=>s1 b o h
 exists 0,x,_,dx,[],1,s1 _ _ hx,T.qp,T.y9,()
 have I0:Ini 0 H a.ql x dx [] H1:=[uA _:s1 _ _ hx:λb o h _=>s1 _ _ h];erw[I0.put "rows" rv,I1,t1];have aA:=ir.mono t1;have htk:∀{n:Nat}{fs:oq (Str×V)}{H':Hp},Ini n H a.ql x dx fs H'->Tk H H':=λ{n fs H'} I=>⟨λb xs e=>I.kept b _ e (λz=>by rw[z,hx] at e;cases e),λb xs e=>⟨_,I.kept b _ e (λz=>by rw[z,hx] at e;cases e)⟩,λb xs e=>⟨_,I.kept b _ e (λz=>by rw[z,hx] at e;cases e)⟩⟩
 exists 0,ov,od,1,ho.mono (htk I1),λH3 s3=>[0:?_];have I3:=I1.same s3;cases ac:my od with
 |false=>exact lq ⟨1,λe=>kN (by rw[al];simp) ac e H3 I3.kept⟩
 |true=>
 refine iU ?_;erw[Bf al,hR,rfl];erw[Lo ac,own,rfl,ac,am];cases(show ov= .str own from ho.1)
 have n1:=hR.n1;have k:=k rs own rfl hR rfl ac am;have aB:=aA.mono s3.tk
 exists 5
 refine⟨0,0,x,_,dx,0,I3.at',T.qp,T.Wj,by have:=I3.len;omega,?_⟩
 erw[I3.put "rule" v,I4,t4];have aC:=aB.mono t4
 exists 5
 refine⟨0,0,x,_,dx,0,I4.at',T.qp,T.Xi,by have:=I4.len;omega,?_⟩
 erw[I4.put "own" (.str own),I5,t5];have aD:=aC.mono t5
 exists g.boxes,0,C.boxes _,λaO A0 aE=>?_;refine Aa3 (tl:= []) C.boxes aE (λz H6 R hz s6 r=>[0:(sml rfl):λl hl=>r _ _ (qf hl _) (Is.new (ds:= [.str z,.str ""]) ⟨_,0,[1:hz],_,0,[1:Ye ()],1⟩ hl)]) λH6 ys s6 e6 i6=>?_
 exists A0,0,NX e6 i6,LF,(),λdb Z=>?_
 have I6:=I5.same s6;have s7:ig H6 (upd H6 db (.dK (lh (BX.map λz=>(z,V.str ""))))):=qf Z _;have I7:=I6.same s7;have b7:=Px Z;have aF:=(aD.mono s6.tk).mono s7.tk;have nx:∀b o,H b=u_ o->b≠x->b≠db:=λb o h n=>qi (I6.kept b o h n) Z;have U:x≠db:=qi I6.at' Z
 exists 5
 refine⟨0,x,_,dx,0,I7.at',T.qp,T.Qt,by have:=I7.len;omega,?_⟩
 erw[I7.put "boxes" (.ref db),I8,t8];have b8:=b7.move t8 (qh U.symm);have aG:=aF.mono t8
 exists 5
 refine⟨0,x,_,dx,0,I8.at',T.qp,T.Qj,by have:=I8.len;omega,?_⟩
 erw[I8.put "place" (.int 1),I9,t9];have b9:=b8.move t9 (qh U.symm);have aH:=aG.mono t9
 exists 5
 refine⟨0,x,_,dx,0,I9.at',T.qp,T.Q8,by have:=I9.len;omega,?_⟩
 erw[I9.put "done" (.int 0),ad,ao];have aI:=b9.move ao (qh U.symm);have ap:=aH.mono ao
 exists (sml rfl),λdg ae=>?_;have af:=qf ae (.lst []);have ag:=ad.same af;have aJ:=aI.same af;have aq:=ap.mono af.tk;have ah:dg≠x:=(qi ad.at' ae).symm
 exists 5
 refine⟨0,x,_,dx,0,ag.at',T.qp,T.YF,by have:=ag.len;omega,?_⟩
 erw[ag.put "given" (.ref dg),ak,au];have aK:=aJ.move au (qh U.symm);have aw:=aq.mono au
 exists 5
 refine⟨0,x,_,dx,0,ak.at',T.qp,T.qL,by have:=ak.len;omega,?_⟩
 erw[ak.put "there" .non,aa,ax];have aL:=aK.move ax (qh U.symm);have ay:=aw.mono ax;have hl:=aa.len
 exists 0,x,dx,0,aa.at',(MH ()).meth _ ()
 have aM:Is _ (yE rs) v:=hv.mono (htk aa);have frs:∀{b:o6}{H2:Hp},(∀c o,H c=u_ o->c≠x->H2 c=u_ o)->H2 b=U_->b≠x->H b=none:=λ{b H2} k1 h1 n1=>by
  cases hc:H b with
  |none=>rfl
  |some o=>rw[k1 b o hc n1] at h1;cases h1
 have aN:∀b o,H b=u_ o->b≠x->b≠dg:=λb o h n=>qi (ad.kept b o h n) ae
 exists 5
 refine⟨⟨x,db,dg,rs,own⟩,⟨B0,(1),(0),[],.non⟩,1,⟨dx,_,rv,v,.non,[],aa.at',MH (),ay,aM,aL,?_,1,1⟩,1,P7,am,hR,Int.le_refl 1,by show(1:Int)<=(↑rs:Int)+1;omega,uY _,λH' m M=>k H' db dg (λb o h n=>m.kept b o (aa.kept b o h n) n (nx b o h n) (aN b o h n)) (frs I6.kept Z U.symm) (frs ad.kept ae ah) M⟩
 rw[qh ah,qh ah,qg]
nonrec def Cu (z:Str):Bool:=z.cps.toList.all QV
mutual
noncomputable def lw:D->Bool
 | .str z=>Cu z
 | .tup xs=>lwL xs
 |_=>V1
noncomputable def lwL:oq D->Bool
 | []=>v_
 |x::r=>lw x&&lwL r
end
nonrec def isP:D->Bool
 | .tup xs=>decide (↑xs=2)
 |_=>V1
nonrec def oZ:D->Bool
 | .tup [k,d]=>if eqD k (.str "made")=v_ then my d else(eqD k (.str "leaf")||eqD k (.str "rule"))&&isT d
 |_=>V1
nonrec def okS:D->Bool
 | .tup [k,_]=>Mm k&&decide (dp k<=60)
 |_=>v_
inductive Nm:Sp
 |mk (v:_)(d:_)(_:vs= [v])(_:Is H d v)(_:Q (.bl (isP d)) H)
inductive Dk:Sp
 |mk (v:_)(d:_)(_:vs= [v])(_:Is H d v)(_:okS d=v_)(_:∀H',ig H H'->Q (.bl (oZ d)) H')
def lN {b:Bool}{A B:Prop}(O:b=v_)(h:A):if b=v_ then A else B:=by rw[A6 O];exact h
def iR {b:Bool}{A B:Prop}(O:b=V1)(h:B):if b=v_ then A else B:=by rw[A4 (by rw[O];exact ub)];exact h
def Ot:#[T,1,a.f_is_pair,a.d_is_pair,["value"],Nm]:=by
 exists 9,T.nc,Cg
 erw[h,v,d,rfl,U,k];exists 3,%[|#[qq,#[Za,#[qD,#[qV,2,rfl],T.qS,ve,#v[pv 0,#[Q4,.ty "tuple",T.QP,vw]]],#[XE,#[Qg,QW,#[qD,Jy,T.Yg,uQ,#v[pv 0]],qk]]]]]
 exists 0,v,"tuple",tyD d,zC d,1,U.ty,xz d,0;cases Z:zC d with
 |false=>
  refine iU ?_;have e:isP d=false:=by cases d<;>first|rfl|simp[zC] at Z
  rwa[e] at k
 |true=>
  obtain⟨xs,rfl⟩:∃xs,d= .tup xs:=by cases d<;>simp[zC] at Z;exact⟨0⟩
  erw[U,p,us,rfl,hp,O];have lu:=↑O;refine lq [0:.inr ⟨p,us,1,.inr (SqT.of hp),λ_=>[1:?_]⟩];have e:decide (V.int (↑us:Int)=V.int 2)=isP (.tup xs):=by
   simp![isP,vd];constructor
   ·intro h;have:=V.int.inj h;omega
   ·intro h;rw[lu,h]
    rfl
  rwa[<-e] at k
def D5:#[T,3,a.wY,a.ZE,["value"],Dk]:=by
 have O:=#[Ot,T];have QG:=#[xw,T];have yw:=#[jv,T];exists 9,T.mP,nQ,Z
 erw[h,v,d,rfl,hv,hok,k];exists 3,%[#[qM,#[Qm,#[qZ,#[qu,O,Z.mono (),T.nc,#v[pv 0]]]],%[|#[qq,YM]],qv],#[qM,#[qr,#[AaI,1,Z.units],#[qF,qA,pv 0],qm],%[|#[qq,#[qu,QG,Z.mono (),T.iM,#v[#[qF,qA,pv 0]]]]],qv]|#[qq,#[Za,#[Qg,8,#[Mi,1,Z.units],#[qF,qA,pv 0],#[qz,#v[qm,qm]],#[w]],#[XE,#[qu,yw,Z.mono (),T.li,#v[#[qF,qA,pv 0]]]]]]]
 exists 0,v,0,hv,0;cases hP:isP d with
 |false=>
  refine lq ?_;have e:oZ d=false:=by
   cases d with
   |tup xs=>
    match xs,hP with
    | [],_=>rfl
    | [_],_=>rfl
    | [_,_],h=>simp[isP] at h
    |_::_::_::_,_=>rfl
   |_=>rfl
  have:=k H (ig.refl _);rwa[e] at this
 |true=>
  refine iU ?_;obtain⟨z,e,rfl⟩:∃z e,d= .tup [z,e]:=by
   cases d with
   |tup xs=>
    match xs,hP with
    | [],h=>simp[isP] at h
    | [_],h=>simp[isP] at h
    | [x,y],_=>exact[x:y:1]
    |_::_::_::_,h=>simp[isP] at h
   |_=>simp[isP] at hP
  erw[id hv,p,us,rfl,hp,x1,r1,rfl,h1,x2,r2,rfl,h2,h3];cases(show r2= [] from h3)
  have U:Mm z=v_/\dp z<=60:=by simpa [okS] using hok
  exists 0,p,_,_,0,1,SqT.of hp,1,z,"made",h1,1,(),U.1,U.2,0
  cases c:eqD z (.str "made") with
  |true=>
   refine lq ⟨0,p,_,_,0,1,SqT.of hp,1,x2,e,1,h2,λH' s'=>?_⟩;have:=k H' s';simp![oZ,c,if_true] at this;exact this
  |false=>
   refine iU ⟨0,p,_,_,0,1,SqT.of hp,1,(sml rfl),λq hq=>?_⟩;have s1:ig H (upd H q (.tup [.str "leaf",.str "rule"])):=qf hq _
   exists z,q,["leaf","rule"],h1.mono s1.tk,1,.inr (SqT.of qg),(),U.1,U.2,0
   have e2:(["leaf","rule"]:oq Str).any (λy=>eqD z (.str y))=(eqD z (.str "leaf")||eqD z (.str "rule")):=by simp
   rw[e2];cases c2:(eqD z (.str "leaf")||eqD z (.str "rule")) with
   |true=>
    refine lq ⟨0,p,_,_,0,1,SqT.of (s1 _ _ hp),1,x2,e,1,h2.mono s1.tk,λH' s'=>?_⟩;have:=k H' (s1.trans s');simp![oZ,c,c2,Fg,UH,if_false] at this;exact this
   |false=>
    refine iU ?_;have:=k _ s1;simp![oZ,c,c2,T6,UH,if_false] at this;exact this
nonrec def okN (z:Str):Bool:=(z.cps.toList.map λc=>inS ⟨#[c]⟩ NSG).all id
def wM (h:nm z=v_):1<=↑z/\↑z<=24:=by
 by_cases c:1<=(↑z:Int)/\(↑z:Int)<=24
 ·omega
 ·rw[Bx c] at h;cases h
nonrec def Nms (zs:oq Str):Prop:=(∀z∈zs,nm z=v_)/\zs.Nodup
nonrec def kK (d:D):Prop:=(∃k e,d= .tup [.str k,e])/\oZ d=v_/\lw d=v_/\sz d<=306
nonrec def prD (p:Str×D):D:= .tup [.str p.1,p.2]
nonrec def Ab5 (ps:oq (Str×D)):Prop:=Nms (ps.map (·.1))/\∀p∈ps,kK p.2
def Ee (h:okN z=v_):Cu z=true:=by
 unfold Cu;rw[U3];intro c U;have:=List.all_eq_true.mp h _ (Ae.mpr [c:U:1]);rw[id,O7] at this;have O:∀c∈NSG.cps.toList,QV c=true:=by decide+kernel
 exact O c (uq this)
def Mp (h:nm z=v_):okN z=true:=by
 have O:=wM h;cases h3:inS ⟨#[z.cps.getD 0 0]⟩ LET with
 |false=>rw[By h3] at h;cases h
 |true=>
  rw[Ei () () h3] at h
  exact h
def IM (h:nm z=v_):kK (.tup [.str "made",.str z]):=by
 have O:=wM h;refine⟨[_:0],?_,?_,by simp![sz,szL];show 1+(("made":Str).length+1+(↑z+1+0))<=306;have:("made":Str).length=4:=rfl;omega⟩
 ·show(if eqD (.str "made") (.str "made")=v_ then nm z else(eqD (.str "made") (.str "leaf")||eqD (.str "made") (.str "rule"))&&isT (.str z))=v_
  rw[A6 ()]
  exact h
 ·have:Cu "made"=true:=by decide+kernel
  simp![lw,lwL,this,Ee (Mp h)]
  rfl
def AY {k:Str}{d:D}(O:k="leaf"∨k="rule")(h:isT d=v_)(U:lw d=v_)(hz:sz d<=300):kK (.tup [.str k,d]):=by
 have Z:↑k=4:=by rcases O with rfl|rfl<;>rfl
 refine⟨[_:0],?_,?_,by simp![sz,szL];omega⟩
 ·show(if eqD (.str k) (.str "made")=v_ then my d else(eqD (.str k) (.str "leaf")||eqD (.str k) (.str "rule"))&&isT d)=v_
  have e1:eqD (.str k) (.str "made")=false:=by rcases O with rfl|rfl<;>decide+kernel
  have e2:(eqD (.str k) (.str "leaf")||eqD (.str k) (.str "rule"))=true:=by rcases O with rfl|rfl<;>decide+kernel
  rw[e1,e2,h]
  rfl
 ·have:Cu k=true:=by
   rcases O with rfl|rfl<;>decide+kernel
  simp![lw,lwL,this,U]
  rfl
def M9 {d:D}(h:kK d):okS d=true:=by
 erw[h,[k,e,rfl],_];simp[okS,Mm,trD,dp]
def Qb (h:↑z<=16000000):Is H (.str z) (.str z):=[1:CT h]
nonrec def qB (ps:oq (Str×D))(z:Str):D:=((ps.find? λp=>decide (p.1=z)).map (·.2)).getD .non
nonrec def zo (vs:oq (Str×V))(z:Str):V:=(iJ (lh vs) (V3 z)).getD .non
def wu (p:Str×V)(r:oq (Str×V)):lh (p::r)=(V3 p.1,p.2)::lh r:=rfl
def oR {H:Hp}{z:Str}:∀{ps:oq (Str×D)}{vs:oq (Str×V)},vs.map (·.1)=ps.map (·.1)->IsL H (ps.map (·.2)) (vs.map (·.2))->z∈ps.map (·.1)->iJ (lh vs) (V3 z)=u_ (zo vs z)/\Is H (qB ps z) (zo vs z)
 | [],_,_,_,h=>nomatch h
 |p::ps,[],e,_,_=>by simp at e
 |p::ps,v::vs,e,hi,hz=>by
  simp![uD,UO] at e;erw[hi,u,r,e2,h1,h2];simp![uD,UO] at e2;erw[e2,rfl,rfl];by_cases c:p.1=z
  ·have O:v.1=z:=e.1.trans c;have e3:iJ (lh (v::vs)) (V3 z)=u_ v.2:=by
    rw[wu];exact QF (by rw[O])
   have U:qB (p::ps) z=p.2:=by simp[qB,v9,c]
   unfold zo;rw[e3,U];exact[1:h1]
  ·have O:¬v.1=z:=λq=>c (e.1.symm.trans q);have e3:iJ (lh (v::vs)) (V3 z)=iJ (lh vs) (V3 z):=by
    rw[wu];exact QA (λq=>O (Ue q))
   have U:qB (p::ps) z=qB ps z:=by simp[qB,v9,c]
   have Z:z∈ps.map (·.1):=by
    rcases Aa.mp hz with h|h
    ·exact A8 h.symm c
    ·exact h
   have ih:=oR e.2 h2 Z;unfold zo at*;rw[e3,U];exact ih
def oS {z:Str}:∀{vs:oq (Str×V)},z∉vs.map (·.1)->iJ (lh vs) (V3 z)=U_
 | [],_=>rfl
 |v::vs,h=>by
  rw[wu,QA (λq=>h (by rw[<-Ue q];exact ui ..))]
  exact oS λm=>h (uj _ m)
def L8:∀{ps:oq (Str×D)},(ps.map (·.1)).Nodup->(ps.map (·.1)).map (λz=>(z,qB ps z))=ps
 | [],_=>rfl
 |p::ps,h=>by
  have h':=List.nodup_cons.mp h;have O:qB (p::ps) p.1=p.2:=by simp[qB,v9]
  rw[uD,uD,O]
  congr 1
  refine Eq.trans (vZ λz hz=>?_) (L8 h'.2);have:¬p.1=z:=λq=>h'.1 (by show p.1∈_;rwa[q])
  simp[qB,v9,this]
nonrec def Cb (ps:oq (Str×D))(ms:oq Str):oq (Str×D):=ms.map λz=>(z,qB ps z)
def W5 (ps:oq (Str×D))(O:oq Str):(Cb ps O).map (·.1)=O:=by
 unfold Cb;rw[uO];exact(vZ λ_ _=>rfl).trans (GM O)
def AU {ps:oq (Str×D)}{O:oq Str}(hn:(ps.map (·.1)).Nodup)(h:O.Perm (ps.map (·.1))):(Cb ps O).Perm ps:=by
 have:=h.map λz=>(z,qB ps z);rwa[L8 hn] at this
nonrec def Q7 (C:o6)(H:Hp)(x:o6)(qs:oq (Str×D)):Prop:=∃(dx d:o6) (o:Obj) (vs:oq (Str×V)),H x=u_ (.ins C dx [("by_name",.ref d)])/\H d=u_ (.frz o (.dK (lh vs)))/\vs.map (·.1)=qs.map (·.1)/\L2.IsL H (qs.map (·.2)) (vs.map (·.2))
variable {qs:oq (Str×D)}
def Q7.same {x:o6}(h:Q7 C H x qs)(s:ig H H'):Q7 C H' x qs:=by
 erw[h,dx,d,o,vs,h1,h2,h3,h4];exact⟨dx,d,o,vs,s _ _ h1,s _ _ h2,h3,h4.mono s.tk⟩
nonrec def Qw (qs:oq (Str×D)):Prop:=Ab5 qs/\sortedS (qs.map (·.1))=v_/\↑qs<=60
inductive Nu (C:Addr):Sp
 |mk (x dx t:Addr)(ps:List (Str×D))(us:List V)(_:vs= [.ref x,.ref t])(_:H x=u_ (.ins C dx []))(_:H t=u_ (.tup us))(_:L2.IsL H (ps.map prD) us)(_:Ab5 ps)(_:↑ps<=60)(_:∀(qs:List (Str×D))(H':Hp),(∀b o,H b=u_ o->b≠x->H' b=u_ o)->Q7 C H' x qs->Qw qs->qs.Perm ps->Q .non H')
def Nms.perm {l m:oq Str}(h:Nms m)(p:l.Perm m):Nms l:=[λz hz=>h.1 z (p.mem_iff.mp hz):(p.nodup_iff).mpr h.2]
def zP {ps:oq (Str×D)}{d:D}(hn:(ps.map (·.1)).Nodup)(h:(z,d)∈ps):qB ps z=d:=by
 induction ps with
 |nil=>cases h
 |cons p r Z=>
  have O:=List.nodup_cons.mp hn;rcases Aa.mp h with h|h
  ·subst h;simp[qB,v9]
  ·have:¬p.1=z:=λq=>O.1 (by show p.1∈_;rw[q];exact Ae.mpr [_:h:1])
   have U:=Z O.2 h
   simpa [qB,v9,this] using U
def Pr {ps:oq (Str×D)}(hn:(ps.map (·.1)).Nodup)(h:z∈ps.map (·.1)):(z,qB ps z)∈ps:=by
 erw[Ae.mp h,p,O,rfl];rw[zP hn (show(p.1,p.2)∈ps from O)]
 exact O
def EI (vs:oq (Str×V))(z:Str)(v:V):lh (vs++ [(z,v)])=lh vs++ [(V3 z,v)]:=by
 unfold lh;rw[um]
 rfl
def Ad3 {α β:Type}(f:α->β){l:oq α}(h:i<↑l):(l.map f)[i]? =u_ (f l[i]):=by
 rw[uC,uc h]
 rfl
def Sl {α:Type}{l:oq α}(h:i<↑l):l.take (i+1)=l.take i++ [l[i]]:=by
 rw[vc,uc h]
 rfl
def Ox:#[T,4,a.ji,a.xf,["self","sources"],(Nu a.qG)]:=by
 have QG:=#[xw,T];have U:=#[D5,T];refine T.mh.F.ok yH () (λ_ _ _ _ H vs Q E hr h=>?_)
 erw[h,x,dx,t,ps,us,rfl,hx,ht,ap,hok,aL,k];have hs:=uE;exists 3,%[#[qH,2,(2),4,yH.nd,rfl,VU rfl,jL,_,_],#[yJ,#[pi_tup,pv 1],#[Wl,QD #[qN,(3),yH.nd] (QD #[qN,(4),yH.nd] xx)],%[#[qM,#[Qm,#[qZ,#[qu,QG,hr.mono (),T.iM,#v[pv 3]]]],%[|JQ],qv],#[qM,#[Qm,#[qZ,#[qu,U,hr.mono (),T.mP,#v[pv 4]]]],%[|JQ],qv],#[qM,#[wI,#[Wk,Qs hr,pv 3,pv 2]],%[|JQ],qv],#[qM,#[qr,QW,#[qD,Im,T.Yg,uQ,#v[pv 2]],#[kJ,T.m_MOST_NAMES]],%[|JQ],qv]|#[jj,pv 2,pv 3,pv 4]]]|#[Qe,#[qU,#[CJ,1,rfl],T.z_dict,boot_dict,#v[#[wB,["name","by_name"],(1),[2],Lk (qj Yc) ["self","sources","by_name","name","source"],#[xm,#[qD,#[sx,1,rfl],T.z_sorted,boot_sorted,#v[pv 2]]],(λ_ _ _ _ _ _=>#[qN,(0),(show Vi (["name","by_name"]:oq Str) by decide+kernel)]),(λ_ _ _ _ _ _=> @yS _),(λ_ _ _ _ _ _=>#[qz,#v[pv 0,#[Qc,pv 1,pv 0]]])]]]]]
 intro d hd;have s1:ig H (upd H d (.dK [])):=qf hd _;have aM:d≠x:=λe=>by rw[e,hx] at hd;cases hd
 have aq:=↑ap;rw[u9] at aq
 exists 5
 refine⟨0,t,1,[_:SqT.of (s1 _ _ ht)],Z8 (K:=K) (a:=t) (xs:=us) (λi σ H'=>∃(vs:oq (Str×V)) (nv sv:ot V),σ= [u_ (.ref x),u_ (.ref t),u_ (.ref d),nv,sv]/\ig H H'/\H' d=u_ (.dK (lh vs))/\vs.map (·.1)=(ps.take i).map (·.1)/\L2.IsL H' ((ps.take i).map (·.2)) (vs.map (·.2)))
  ⟨[],U_,U_,1,s1,qg,1,1⟩ (λi σ H' _ ⟨_,_,_,_,sm,_⟩=>SqT.of (sm _ _ ht)) ?_ ?_⟩
 ·rintro i y σ H' hi ⟨vs,nv,sv,rfl,sm,ac,hk,hv⟩;have aN:i<↑us:=(Ag.mp hi).1;have Z:i<↑ps:=by omega
  erw[ap.get (Ad3 prD Z),v,e1,e2];rw[hi] at e1;cases e1;have au:=hok.2 _ (uV Z);have aB:nm ps[i].1=true:=hok.1.1 _ (Ae.mpr [_:uV Z:1]);erw[au,[sk,sd,aO],aC,aP];erw[e2,p,ws,rfl,hp,w1,r1,rfl,[rfl,hz],w2,r2,rfl,h2,h3];cases(show r2= [] from h3)
  have aD:=sm _ _ hp
  exists p,0,SqT.of aD,1,_,0,_,0,1
  exists 0,_,.str ps[i].1,1,[1:hz],λH3 s3=>⟨0,iR (by simp[my,aB]) ?_⟩
  have aw:Is H3 ps[i].2 w2:=h2.mono (sm.trans s3).tk
  exists 0,w2,ps[i].2,1,aw,M9 (hok.2 _ (uV Z)),λH4 s4=>⟨0,iR (by rw[aC];rfl) ?_⟩
  have af:=s3.trans s4;have ad:=af _ _ ac;have nk:ps[i].1∉vs.map (·.1):=by
   rw[hk];have aa:=hok.1.2;have e:ps.map (·.1)=(ps.take i).map (·.1)++ps[i].1::(ps.drop (i+1)).map (·.1):=by
    rw[<-uD (f:=λx:Str×D=>x.1),<-uU Z,<-um,vP]
   rw[e,Uc] at aa;exact λm=>aa.2.2 _ m _ (ui ..) rfl
  have ev:=oS nk;have aE:↑vs=i:=by
   have:=A9 Vv hk;rw[u9,u9,vy] at this;omega
  exists 0,0,d,0,mM.k (k:=V3 ps[i].1) ad,0,iR (by rw[ev];rfl) ?_
  exists 0,d,0,ad,1,0,iR (ug λq=>?_) ?_
  ·have:=V.int.inj q;unfold lh at this;rw[u9] at this;omega
  ·have aF:↑(lh vs)<sizeLine:=by
    unfold lh;rw[u9];omega
   exists 0,0,0,d,0,CQ.k (k:=V3 ps[i].1) ad aF;have tk:Tk H4 (upd H4 d (.dK (lm (lh vs) (V3 ps[i].1) w2))):=Tk.updD ad
   exists vs++ [(ps[i].1,w2)],_,0,?_,?_,?_,?_
   ·intro b o e;rw[qh (qi e hd)];exact(sm.trans af) _ _ e
   ·rw[qg,Xl _ ev,EI]
   ·rw[Sl Z,um,um,hk]
    rfl
   ·rw[Sl Z,um,um];exact(((hv.mono af.tk).mono tk)).append (L2.IsL.one ((aw.mono s4.tk).mono tk))
 ·rintro σ H1 ⟨vs,nv,sv,rfl,sm,ac,hk,hv⟩;rw[aq,vU] at hk hv;have aE:↑vs=↑ps:=by
   have:=A9 Vv hk
   rwa[u9,u9] at this
  have ag:(lh vs).map (·.1)=(ps.map (·.1)).map Sum.inr:=by rw[ZH,hk]
  exists 5
  refine⟨0,d,lh vs,ps.map (·.1),1,ac,ag,by rw[u9];omega,λms q O ah hq=>⟨q,1,[_:SqL.of qg],λA0 ak=>?_⟩⟩
  have s2:ig H1 (upd H1 q (.lst (ms.map V.str))):=qf hq _;have aQ:↑ms=↑ps:=by
   have:=O.length_eq
   rwa[u9] at this
  refine O0 (K:=K) (tl:= [u_ (.ref d)]) (λi ys H'=>∃ts:oq o6,ys=ts.map V.ref/\↑ts=i/\ig H1 H'/\H' A0=u_ (.lst ys)/\∀(j:Nat) (t:o6) (z:Str),ts[j]? =u_ t->ms[j]? =u_ z->H' t=u_ (.tup [.str z,zo vs z])) qg () ak
   ⟨[],1,1,s2.trans (qf ak _),qg,λj t z h=>by simp at h⟩ ?_ ?_
  ·rintro i z ys H' hz ⟨ts,rfl,ae,s3,hA,al⟩ _ _ _ R r;have aG:z∈ps.map (·.1):=O.mem_iff.mp (uN hz);have lk:=oR hk hv aG
   exists 0,0,0,d,zo vs z,1,?_,(sml rfl),λt2 am=>?_
   ·have:=mM.k (k:=V3 z) (s3 _ _ ac);rwa[lk.1] at this
   ·have s4:=qf am (.tup [V.str z,zo vs z]);have aH:t2≠A0:=λe=>by rw[e,hA] at am;cases am
    refine r _ _ (s4 _ _ hA) (s4 _ _ (by assumption)) ⟨ts++ [t2],by rw[um];rfl,by rw[uJ,ae];rfl,?_,qg,?_⟩
    ·intro b o e;have nb:b≠A0:=qi (s2 _ _ e) ak;rw[qh nb];exact s4 _ _ (s3 _ _ e)
    ·intro j t z' h1 h2;rcases GR j i with hj|hj
     ·rw[U8 ()] at h1
      have:=al j t z' h1 h2;have nb:t≠A0:=λe=>by rw[e,hA] at this;cases this
      rw[qh nb];exact s4 _ _ this
     ·have aI:j=i:=by
       have:=(Ag.mp h1).1;rw[uJ] at this;have:j<↑ts+1:=this;omega
      subst aI;rw[hz] at h2;cases h2;rw[Uw (),ae,Nat.sub_self] at h1
      cases h1;rw[qh aH];exact qg
  ·rintro ys H2 ⟨ts,rfl,ae,s3,hA,al⟩ _;have aa:=hok.1.2;have aJ:ms.Nodup:=O.nodup_iff.mpr aa;have ax:(ms.map λz=>(z,zo vs z)).map (·.1)=ms:=by
    rw[uO];exact(vZ λ_ _=>rfl).trans (GM ms)
   exists 5
   refine⟨A0,ms.map λz=>(z,zo vs z),1,⟨ts,hA,by rwa[u9],λj t p h1 h2=>?_⟩,by rwa[ax],by rw[u9];omega,λq2 o ao=>?_⟩
   ·rw[uC] at h2;cases h3:ms[j]? with
    |none=>rw[h3] at h2;cases h2
    |some z=>
     rw[h3] at h2;cases h2;exact al j t z h1 h3
   ·have s4:=qf ao (.frz o (.dK (lh (ms.map λz=>(z,zo vs z)))));have ay:H1 x=u_ (.ins a.qG dx []):=sm _ _ hx;have aA:=s4 _ _ (s3 _ _ ay);have nq:q2≠x:=λe=>by rw[e,s3 _ _ ay] at ao;cases ao
    exists 0,x,a.qG,dx,[],1,aA,T.QS,T.Q0,(by show 0<1000;decide)
    refine k (Cb ps ms) _ ?_ ⟨dx,q2,o,ms.map λz=>(z,zo vs z),qg,by rw[qh nq];exact qg,by rw[ax,W5],?_⟩ ⟨[?_:?_],by rwa[W5],by unfold Cb;rw[u9];omega⟩ (AU aa O)
    ·intro b ob e nb;rw[qh nb];exact s4 _ _ (s3 _ _ (sm _ _ e))
    ·have tk:Tk H1 (upd (upd H2 q2 (.frz o (.dK (lh (ms.map λz=>(z,zo vs z)))))) x (.ins a.qG dx (iE "by_name" (.ref q2) []))):=(s3.trans s4).tk.trans (Tk.updI aA);have aK:∀l:oq Str,(∀z∈l,z∈ps.map (·.1))->L2.IsL H1 ((Cb ps l).map (·.2)) ((l.map λz=>(z,zo vs z)).map (·.2)):=by
      intro l
      induction l with
      |nil=>exact λ_=>rfl
      |cons z r ih=>exact λh=>⟨_,0,(oR hk hv (h z (ui ..))).2,ih λy hy=>h y (uj _ hy)⟩
     exact(aK ms λz hz=>O.mem_iff.mp hz).mono tk
    ·rw[W5];exact hok.1.perm O
    ·intro p hp;exact hok.2 p ((AU aa O).mem_iff.mp hp)
def EW:Vq ("by_name":Str) [(("by_name":Str),v)]=u_ v:=by simp[Vq]
def yk:Vq ("source_of":Str) [(("by_name":Str),v)]=none:=by
 have:(("source_of":Str)=="by_name")=false:=by decide+kernel
 simp[Vq,this]
inductive ZR (C:Addr):Sp
 |mk (x:Addr)(z:Str)(qs:List (Str×D))(_:vs= [.ref x,.str z])(_:Q7 C H x qs)(_:∀v:V,(z∈qs.map (·.1)->Is H (qB qs z) v)->(z∉qs.map (·.1)->v= .non)->Q v H)
def yN:#[T,1,a.YO,a.YH,["self","name"],(ZR a.qG)]:=by
 refine T.ii.F.ok JT () (λ_ _ _ _ H vs Q E U h=>?_)
 erw[h,x,z,qs,rfl,[dx,d,o,vs,Z,hd,O,hv],k];exists 3,%[|#[qq,#[kE,7,Qs U,#[qO,5,pv 0,rfl],pv 1,⟨1,1,1,1⟩]]]
 exists 0,x,a.qG,dx,_,0,Z,T.QS,T.Q0,EW,d,1,.inl [_:.inr [o:hd]],0,_,.inl ⟨_,V3 z,.inr [o:hd],1,1⟩;refine k _ (λc=>?_) λc=>?_
 ·exact(oR O hv c).2
 ·rw[oS (by rwa[O])]
  rfl
nonrec def Cl (zs:oq Str):D:= .tup (zs.map D.str)
nonrec def Be (acc:oq Str):oq Str->oq Str
 | []=>acc
 |z::r=>if isT (Cl (acc++ [z]))=v_ then Be (acc++ [z]) r else acc
inductive Wy (K:PySem.W.Frag):Sp
 |mk (L:Addr)(zs:List Str)(_:vs= [.ref L])(_:H L=u_ (.lst (zs.map V.str)))(_:(∀z∈zs,↑z<=100))(_:↑zs<=100)(_:∀(v:V)(H':Hp),ig H H'->Is H' (Cl (Be [] zs)) v->Q v H')
variable {xs:oq V}{x:V}{Q:VK}
def AdB {K:o0}{a:o6}(ha:H a=u_ (.tup xs))(O:↑xs+1<=V5)(k:∀p H',ig H H'->H' p=u_ (.tup (xs++ [x]))->Q (.ref p) H'):
  [x].length<=V5/\∀q,H q=U_->KA K (.ref a) (.ref q) (upd H q (.tup [x])) Q:=by
 exists sml rfl,λq U=>?_;have s1:ig H (upd H q (.tup [x])):=qf U _;exists a,q,xs,[x],1,1,SqT.of (s1 _ _ ha),SqT.of qg,O,λe=>?_,(λ_ e=>by cases e),λ_ _ p Z=>?_
 ·refine k q _ s1 ?_;rw[e];exact qg
 ·exact k p _ (s1.trans (qf Z _)) qg
variable {p:o6}
def EE {zs:oq Str}(h:H p=u_ (.tup (zs.map V.str)))(hz:∀z∈zs,↑z<=100):Is H (Cl zs) (.ref p):=by
 have O:∀(zs:oq Str),(∀z∈zs,↑z<=100)->IsL H (zs.map D.str) (zs.map V.str):=by
  intro zs
  induction zs with
  |nil=>exact λ_=>rfl
  |cons z r U=>
   intro h;exact⟨_,0,⟨1,CT (by have:=h z (ui ..);omega)⟩,U λy Z=>h y (uj _ Z)⟩
 exact⟨p,0,h,O zs hz⟩
def Bd:∀(zs O:oq Str) (z:Str),z∈Be O zs->z∈O∨z∈zs
 | [],O,z,h=> .inl h
 |y::r,O,z,h=>by
  unfold Be at h;split at h
  ·rcases Bd r _ z h with h|h
   ·rcases Ac.mp h with h|h
    ·exact .inl h
    ·exact .inr (by rw[Ab.mp h];exact ui ..)
   ·exact .inr (uj _ h)
  ·exact .inl h
inductive Dq (C:Addr):Sp
 |mk (x t:Addr)(kind text:Str)(qs:List (Str×D))(_:vs= [.ref x,.ref t])(_:Q7 C H x qs)(_:Qw qs)(_:H t=u_ (.tup [.str kind,.str text]))(_:↑text<=1000)(_:((kind="has"/\Q (.str (if text∈qs.map (·.1) then "yes" else "no")) H)∨(kind="names"/\∀(v:V)(H':Hp),ig H H'->Is H' (Cl (Be [] ((qs.map (·.1)).filter λz=>gQ z text))) v->Q v H')))
def AA {vs:oq (Str×V)}(O:vs.map (·.1)=qs.map (·.1))(hi:L2.IsL H (qs.map (·.2)) (vs.map (·.2)))(z:Str):(iJ (lh vs) (V3 z)).isSome=decide (z∈qs.map (·.1)):=by
 by_cases c:z∈qs.map (·.1)
 ·rw[(oR O hi c).1,uh c]
  rfl
 ·rw[oS (by rw[O];exact c),ug c]
  rfl
def Cr:#[T,3,a.XH,a.X2,["names"],(Wy K)]:=by
 have yw:=#[jv,T];exists 9,T.mo,Yb
 erw[h,L,zs,rfl,hL,hz,hn,k];have hs:=uE;exists 3,%[#[qH,(1),Yb.nd,#[qz,qd]],#[yJ,#[xm,pv 0],#[qN,(2),Yb.nd],%[#[qM,#[Qm,#[qZ,#[qu,yw,hr.mono (),T.li,#v[#[QC,kW,pv 1,#[qz,#v[pv 2]]]]]]],%[|KC],qv]|#[qH,(1),Yb.nd,#[QC,kW,pv 1,#[qz,#v[pv 2]]]]]]|#[qq,pv 1]]
 exists (sml rfl),λq hq=>?_;have s1:ig H (upd H q (.tup [])):=qf hq _
 exists 5
 refine⟨0,L,1,[_:SqL.of (s1 _ _ hL)],kj (K:=K) (a:=L) (xs:=zs.map V.str) (λi σ H'=>∃(row:oq Str) (p:o6) (kv:ot V),σ= [u_ (.ref L),u_ (.ref p),kv]/\H' p=u_ (.tup (row.map V.str))/\ig H H'/\Be row (zs.drop i)=Be [] zs/\↑row<=i/\∀z∈row,z∈zs)
  ⟨[],q,U_,1,qg,s1,1,uA _,λz h=>nomatch h⟩ (λi σ H' _ ⟨_,_,_,_,_,s2,_⟩=>SqL.of (s2 _ _ hL)) ?_ ?_⟩
 ·rintro i x σ H' hi ⟨row,p,kv,rfl,Z,s2,O,hl,hm⟩;have U:i<↑zs:=by
   have:=(Ag.mp hi).1
   simpa using this
  obtain rfl:x=V.str zs[i]:=by
   rw[uC,uc U] at hi;exact(uM hi).symm
  have ed:zs.drop i=zs[i]::zs.drop (i+1):=uU U;rw[ed] at O;rw[show Be row (zs[i]::zs.drop (i+1))=if isT (Cl (row++ [zs[i]]))=v_ then Be (row++ [zs[i]]) (zs.drop (i+1)) else row from rfl] at O
  have aa:∀z∈row++ [zs[i]],z∈zs:=λz h=>by
   rcases Ac.mp h with h|h
   ·exact hm z h
   ·rw[Ab.mp h];exact uV U
  have hsz:↑(row.map V.str)+1<=sizeLine:=by rw[u9];omega
  have em:row.map V.str++ [V.str zs[i]]=(row++ [zs[i]]).map V.str:=by simp
  exists 0,0,AdB Z hsz λp2 H3 s3 h3=>⟨_,Cl (row++ [zs[i]]),1,EE (by rw[h3,em]) λz h=>hz z (aa z h),λH4 s4=>[0:?_]⟩
  cases hT:isT (Cl (row++ [zs[i]])) with
  |false=>
   rw[A4 (by rw[hT];exact ub)] at O
   refine lq [0:k _ H4 ((s2.trans s3).trans s4) ?_];rw[<-O];exact EE (s4 _ _ (s3 _ _ Z)) λz h=>hz z (hm z h)
  |true=>
   rw[A6 hT] at O;refine iU [0:0:AdB (s4 _ _ (s3 _ _ Z)) hsz λp5 H5 s5 h5=>?_];exact⟨row++ [zs[i]],p5,0,by rw[h5,em],((s2.trans s3).trans s4).trans s5,O,by rw[uJ];show ↑row+1<=i+1;omega,aa⟩
 ·rintro σ H' ⟨row,p,kv,rfl,Z,s2,O,hl,hm⟩
  exists 0,k _ H' s2 ?_;rw[u9,RO] at O;rw[<-O];exact EE Z λz h=>hz z (hm z h)
def oH:#[T,4,a.YJ,a.YU,["self","ask"],(Dq a.qG)]:=by
 have k9:=#[Cr,T];refine T.iG.F.ok JS () (λ_ _ _ _ H vs Q E hr h=>?_)
 erw[h,x,t,kind,text,qs,rfl,[dx,d,o,vs,hx,hd,hk,hv],U,Z,ad,h];have hs:=uE;exists 3,%[#[qM,#[qr,QW,#[qF,qA,pv 1],qm],%[|#[qq,#[Q2,#[wI,#[Wk,Qs hr,#[qF,qA,pv 1],#[qO,5,pv 0,rfl]]],qm,qm]]],qv]|#[qq,#[qu,k9,hr.mono (),T.mo,#v[#[wB,["name","ask"],(1),[1],Lk (qj QO) ["self","ask"],#[w8,#[qO,5,pv 0,rfl]],(λ_ _ _ _ _ _=>#[qN,(0),(show Vi (["name","ask"]:oq Str) by decide+kernel)]),(λ_ _ _ _ _ _=>#[Ak,3,#[qZ,#[AaC,1,K,11,rfl,vH,PySem.F.slot_str_startswith,PySem.F.type_str_startswith,El,pv 0,#v[#[qF,#[Z4,1,K,rfl],pv 1]],_,_,_,_,_]]]),(λ_ _ _ _ _ _=>(pv 0))]]]]]
 exists 0,t,_,_,0,1,SqT.of Z,1,1,0;rcases h with⟨rfl,k⟩|⟨rfl,k⟩
 ·refine lN (uh rfl) ?_
  exists 0,t,_,_,0,1,SqT.of Z,1,0,x,a.qG,dx,_,0,hx,T.QS,T.Q0,EW,d,0,.inl ⟨_,V3 text,.inr [o:hd],1,1⟩,0;rw[AA hk hv];by_cases c:text∈qs.map (·.1)
  ·rw[A6 c] at k;exact lN (uh c) k
  ·rw[A4 c] at k;exact iR (ug c) k
 ·refine iR () ?_
  have O:(lh vs).map (·.1)=(qs.map (·.1)).map Sum.inr:=by rw[ZH,hk]
  exists 0,x,a.qG,dx,_,0,hx,T.QS,T.Q0,EW,d,o,0,hd,λA0 aa=>?_;refine O1 (tl:= [u_ (.ref t)]) (λz=>gQ z text) V.str hd O (by rw[u9];have:=U.2.2;omega) aa (λz H1 R hz s1 r=>?_) (λz H1 R hz s1 r=>[0:r]) λH1 s1 h1=>?_
  ·exact⟨0,1,0,t,_,_,0,1,SqT.of (s1 _ _ Z),1,z,text,1,1,0,r⟩
  ·exists A0,0,h1,λz hz=>?_,?_,λv H2 s2 ac=>k v H2 (s1.trans s2) ac
   ·have:=wM (U.1.1.1 z (Af.mp hz).1);omega
   ·have:=Uq (λz=>gQ z text) (qs.map (·.1));rw[u9] at this;have:=U.2.2;omega
nonrec def yt:D->Bool
 | .non=>v_
 |_=>V1
nonrec def X4:D->D
 | .tup [_,d]=>d
 |d=>d
nonrec def zg (d:D):Prop:=d= .non∨isT d=v_
nonrec def Gd (d:D):Prop:=lp d=v_/\dp d<=20
def Abi:∀z∈(["kind","big","told","silent","long","name"]:oq Str),lp (flt z)=true:=by decide+kernel
def ME (h:z∈(["kind","big","told","silent","long","name"]:oq Str)):Gd (flt z):=⟨Abi z h,by show dp (.tup [.str "fault",.str z])<=20;simp[dp,dpL]⟩
def Abh {u:Str}{d:D}(O:Q3 u=v_)(h:isT d=v_):Gd (.tup [.str u,d]):=by
 have U:=Ya h;have hd:=xb h;exists ?_,?_
 ·simp![lp,goodL,O,U,Uu]
  rfl
 ·simp![dp,dpL];omega
def BH {u w:Str}{d:D}(O:Q3 u=v_)(U:Q3 w=v_)(h:isT d=v_):Gd (.tup [.str u,.tup [.str w,d]]):=by
 have Z:=Ya h;have hd:=xb h;exists ?_,?_
 ·simp![lp,goodL,O,U,Z,Uu]
  rfl
 ·simp![dp,dpL];omega
def NM {B:Str->D}{p:Int}(hr:j8 n 300 r)(h:Tr B)(O:me own r B p= .stop e):Gd e:=by
 unfold me at O;erw[id hr,ks,hk,hp];erw[r,U,ps];by_cases c1:U∈MKR
 ·rw[A6 c1] at O;simp only at O;generalize made U B own ps=dm at O;have aa:(if isT dm=v_ then Out.go (l9 B (b0 ps) dm) (p+1) else .stop (flt "big"))= .stop e->Gd e:=by
   intro hq;by_cases c:isT dm=v_
   ·rw[A6 c] at hq;cases hq
   ·rw[A4 c] at hq;cases hq;exact ME ()
  cases dm with
  |non=>cases O;exact ME ()
  |_=>exact aa O
 rw[A4 c1] at O;by_cases c2:U∈ASK
 ·rw[A6 c2] at O;cases O;erw[ZO _ hk c2,_,_,Z];simp only at Z;subst Z;erw[wb hp,z0,z1,rfl,h0,h1];have hT:=h z1 h1;show Gd (nu U (B z1));unfold nu;by_cases d1:U="names"
  ·rw[A6 d1];by_cases d2:isStr (B z1)=v_
   ·rw[A6 d2];exact BH () () hT
   ·rw[A4 d2];exact ME ()
  ·rw[A4 d1];by_cases d2:my (B z1)=v_
   ·rw[A6 d2];refine BH () ?_ hT
    split<;>decide+kernel
   ·rw[A4 d2];exact ME ()
 rw[A4 c2] at O;by_cases c3:U="say"
 ·rw[A6 c3] at O;cases O;subst c3;have Z:=AC _ hk rfl;simp only at Z;subst Z;erw[Acq hp,z0,rfl,h0];exact Abh () (h z0 h0)
 rw[A4 c3] at O;by_cases c4:U="fault"
 ·rw[A6 c4] at O;cases O;exact ME ()
 rw[A4 c4] at O;by_cases c5:Mu U B ps=v_
 ·rw[A6 c5] at O;cases O
 ·rw[A4 c5] at O;cases O
nonrec def l8 (rs:oq Rw)(own:Str)(r:Rn)(a:D):Rn:=if yt a=v_ then⟨r.B,r.p,r.n+1,r.gs++ [.tup [X4 r.th,a]],flt "lack"⟩ else mn rs own (r.gs++ [.tup [X4 r.th,a]]) (300-(r.n+1)) (l9 r.B (b0 (Yp rs r.p).2) a) (r.p+1) (r.n+1)
structure CU (rs:oq Rw)(r:Rn):Prop where
 tr:Tr r.B
 p1:1<=r.p
 p2:r.p<=↑rs+1
 n:r.n<=300
 gd:Gd r.th
 two:∃w e,r.th= .tup [.str w,e]
 gs:nL r.gs=v_/\dpL r.gs<=30/\↑r.gs<=r.n
 ask:Qx r.th=v_->r.p<=↑rs/\(Yp rs r.p).1∈ASK/\r.n<300/\∃(u:Str) (d:D),r.th= .tup [.str "asks",.tup [.str u,d]]/\u∈(["thing","has","names"]:oq Str)/\isT d=v_
mutual
theorem wR:∀{d:D},lp d=v_->nD d=v_
 | .str _,_=>rfl
 | .tup xs,h=>by
  simp![lp,uG] at h;simp![nD];exact goodL_n h.2
 | .non,h=>by simp[lp] at h
 | .bl _,h=>by simp[lp] at h
 | .int _,h=>by simp[lp] at h
 | .lst,h=>by simp[lp] at h
 | .dct,h=>by simp[lp] at h
theorem goodL_n:∀{ds:oq D},goodL ds=v_->nL ds=v_
 | [],_=>rfl
 |d::ds,h=>by
  simp![goodL,uG] at h;simp![nL];rw[wR h.1,goodL_n h.2]
  rfl
end
def Mq:∀{xs ys:oq D},nL xs=v_->nL ys=v_->nL (xs++ys)=v_
 | [],_,_,h=>h
 |x::xs,ys,h,h2=>by
  simp![nL,uG] at h;simp![Ux,nL];rw[h.1,Mq h.2 h2]
  rfl
def Pn (n:Nat){xs ys:oq D}(h:dpL xs<=n)(h2:dpL ys<=n):dpL (xs++ys)<=n:=by
 rw[Z3] at h h2⊢;intro x O;rcases Ac.mp O with O|O
 ·exact h x O
 ·exact h2 x O
def Kz {B:Str->D}{p:Int}(hr:j8 n 300 r)(h:Tr B)(O:me own r B p= .stop e)(U:Qx e=v_):r.1∈ASK/\∃(u:Str) (d:D),e= .tup [.str "asks",.tup [.str u,d]]/\u∈(["thing","has","names"]:oq Str)/\isT d=true:=by
 unfold me at O;erw[id hr,ks,hk,hp];erw[r,Z,ps];by_cases c1:Z∈MKR
 ·rw[A6 c1] at O;simp only at O;generalize made Z B own ps=dm at O;have aa:(if isT dm=v_ then Out.go (l9 B (b0 ps) dm) (p+1) else .stop (flt "big"))= .stop e->False:=by
   intro hq;by_cases c:isT dm=v_
   ·rw[A6 c] at hq;cases hq
   ·rw[A4 c] at hq;cases hq;exact A8 U ()
  cases dm with
  |non=>cases O;exact A8 U ()
  |_=>exact(aa O).elim
 rw[A4 c1] at O;by_cases c2:Z∈ASK
 ·rw[A6 c2] at O;cases O;exists c2;erw[ZO _ hk c2,_,_,ek];simp only at ek;subst ek;erw[wb hp,z0,z1,rfl,h0,h1];have hT:=h z1 h1;have U:Qx (nu Z (B z1))=true:=U;show∃u d,nu Z (B z1)=_/\_;unfold nu at U⊢;by_cases d1:Z="names"
  ·rw[A6 d1] at U⊢;by_cases d2:isStr (B z1)=v_
   ·rw[A6 d2];exact⟨_,0,(),hT⟩
   ·rw[A4 d2] at U;exact A8 U ()
  ·rw[A4 d1] at U⊢;by_cases d2:my (B z1)=v_
   ·rw[A6 d2];exact⟨_,0,by split<;>decide+kernel,hT⟩
   ·rw[A4 d2] at U;exact A8 U ()
 rw[A4 c2] at O;by_cases c3:Z="say"
 ·rw[A6 c3] at O;cases O;exact A8 U (by simp![Qx];exact λh=>A8 (uq h) ())
 rw[A4 c3] at O;by_cases c4:Z="fault"
 ·rw[A6 c4] at O;cases O;exact A8 U ()
 rw[A4 c4] at O;by_cases c5:Mu Z B ps=v_
 ·rw[A6 c5] at O;cases O
 ·rw[A4 c5] at O;cases O
def Ah {rs:oq Rw}{own:Str}(hR:QL rs):∀(f:Nat) (B:Str->D) (p:Int) (n:Nat) (gs:oq D),f+n=300->Tr B->1<=p->p<=↑rs+1->nL gs=v_/\dpL gs<=30/\↑gs<=n->CU rs (mn rs own gs f B p n)
 |0,B,p,n,gs,hf,hT,h1,h2,hg=>by
  have U:Qx (if p>↑rs then flt "silent" else flt "long")=false:=by split<;>decide+kernel
  refine⟨hT,h1,h2,by show n<=300;omega,?_,?_,hg,λh=>A8 (U.symm.trans h) ()⟩
  ·show Gd (if p>↑rs then flt "silent" else flt "long")
   split
   ·exact ME ()
   ·exact ME ()
  ·show∃w e,(if p>↑rs then flt "silent" else flt "long")=_
   split
   ·exact[_:0]
   ·exact[_:0]
 |f+1,B,p,n,gs,hf,hT,h1,h2,hg=>by
  unfold mn;by_cases c:p>↑rs
  ·rw[A6 c];exact⟨hT,h1,h2,by show n<=300;omega,ME (),[_:0],hg,λh=>A8 h (show¬Qx (flt "silent")=v_ by decide+kernel)⟩
  ·rw[A4 c];have O:=hR.ok _ (kr h1 ())
   have hok:=Ai (own:=own) O hT h1 ()
   cases Z:me own (Yp rs p) B p with
   |go B' p'=>
    rw[Z] at hok;exact Ah hR f B' p' (n+1) gs () hok.1 hok.2.1 hok.2.2 ⟨hg.1,hg.2.1,by have:=hg.2.2;omega⟩
   |stop e=>
    rw[Z] at hok;simp only;exists hT,h1,h2,?_,NM O hT Z,hok,[hg.1:hg.2.1:?_],λU=>?_
    ·show(if Qx e=v_ then n else n+1)<=300
     split<;>omega
    ·show ↑gs<=(if Qx e=v_ then n else n+1)
     have:=hg.2.2;split<;>omega
    ·erw[Kz O hT Z U,a1,u,d,a2,a3,a4];refine⟨by show p<=↑rs;omega,a1,?_,u,d,a2,a3,a4⟩
     show(if Qx e=v_ then n else n+1)<300
     rw[A6 (show Qx e=v_ from U)]
     omega
def AK (Z:QL rs){r:Rn}{a:D}(h:CU rs r)(hw:Qx r.th=v_)(ha:zg a):CU rs (l8 rs own r a):=by
 erw[h.ask hw,k1,k2,k3,u,d,e,k4,k5];have O:nD a=v_/\dp a<=12:=by
  rcases ha with rfl|ha
  ·exact⟨1,by simp[dp]⟩
  ·exact[wR (Ya ha):xb ha]
 have aa:=xb k5;have U:nL (r.gs++ [D.tup [X4 r.th,a]])=v_/\dpL (r.gs++ [D.tup [X4 r.th,a]])<=30/\↑(r.gs++ [D.tup [X4 r.th,a]])<=r.n+1:=by
  rw[e];show nL (r.gs++ [.tup [.tup [.str u,d],a]])=v_/\_;exists Mq h.gs.1 ?_,Pn 30 h.gs.2.1 ?_,?_
  ·simp![nL,nD,wR (Ya k5),O.1,Uu]
  ·show dpL [.tup [.tup [.str u,d],a]]<=30;simp![dpL,dp];have:=O.2;omega
  ·rw[uJ];have:=h.gs.2.2;show ↑r.gs+1<=r.n+1;omega
 unfold l8;cases hn:yt a with
 |true=>
  rw[A6 rfl];exact⟨h.tr,h.p1,h.p2,by show r.n+1<=300;omega,⟨(by decide+kernel:lp (flt "lack")=v_),by show dp (.tup [.str "fault",.str "lack"])<=20;simp[dp,dpL]⟩,[_:0],U,λh=>A8 h (show¬Qx (flt "lack")=v_ by decide+kernel)⟩
 |false=>
  rw[A4 ub];have hT:isT a=true:=by
   rcases ha with rfl|ha
   ·cases hn
   ·exact ha
  refine Ah Z _ _ _ _ _ () (kl h.tr hT) (by have:=h.p1;omega) () U
def jB {d:D}{u:V}(O:Is H d u)(U:d≠ .non):u≠ .non:=by
 rintro rfl;cases d with
 |non=>exact U rfl
 |bl b=>cases(show V.non= .bl b from O)
 |int i=>cases(show V.non= .int i from O)
 |str z=>erw[O,h,_];cases h
 |lst=>erw[O,_,_,h,_];cases h
 |dct=>erw[O,_,_,h,_];cases h
 |tup xs=>erw[O,_,_,h,_];cases h
def Abx (O:j8 n 300 r)(hs:r.1∈ASK):∃U z1,r.2= [.s U,.s z1]/\U∈BX:=by
 erw[id O,ks,hk,hp];erw[ZO _ hk hs,_,_,Z];simp only at Z;subst Z;erw[wb hp,x,y,e,hx,hy];exact⟨x,y,e,hx⟩
nonrec def Ln:D->Bool
 | .tup xs=>xs.all my
 |_=>V1
nonrec def AN (u:Str)(a:D):Bool:=if yt a=v_ then decide (u="thing") else if isT a=v_ then(if u="has" then(["yes","no"]:oq Str).any (λz=>eqD a (.str z)) else decide (u="thing")||Ln a) else V1
def AM {u:Str}{a:D}(h:AN u a=v_):zg a:=by
 unfold AN at h;cases hn:yt a with
 |true=>
  cases a with
  |non=>exact .inl rfl
  |_=>cases hn
 |false=>
  rw[hn,A4 ub] at h;by_cases c:isT a=v_
  ·exact .inr c
  ·rw[A4 c] at h;cases h
inductive Nh:Sp
 |mk (v:V)(d:D)(_:vs= [v])(_:Is H d v)(_:isT d=v_)(_:∀H',ig H H'->Q (.bl (Ln d)) H')
inductive IU:Sp
 |mk (v1 v2:V)(u:Str)(d a:D)(_:vs= [v1,v2])(_:Is H (.tup [.str u,d]) v1)(_:Is H a v2)(_:∀H',ig H H'->Q (.bl (AN u a)) H')
inductive L3 (C:Addr):Sp
 |mk (m:Mc)(r:Rn)(v:V)(u:Str)(d a:D)(_:vs= [.ref m.x,v])(_:yo C H m r)(_:CU m.rs r)(_:r.th= .tup [.str "asks",.tup [.str u,d]])(_:Is H a v)(_:QL m.rs)(_:↑m.own<=100)(_:AN u a=v_)(_:∀H',Mv m H H'->yo C H' m (l8 m.rs m.own r a)->Q .non H')
def On:#[T,2,a.jw,a.jy,["tree"],Nh]:=by
 have QG:=#[xw,T];refine T.lH.F.ok XW () (λ_ _ _ _ H vs Q E hr h=>?_)
 erw[h,v,d,rfl,iv,hT,k];exists 3,%[|#[qq,#[Za,#[qD,#[qV,2,rfl],T.qS,ve,#v[pv 0,#[Q4,.ty "tuple",T.QP,vw]]],#[XE,#[qD,#[Xn,1,rfl],T.z_all,Hg,#v[#[wB,["part"],(1),[],OZ,#[wc,pv 0],(λ_ _ _ _ _ _=>#[qN,(0),(show Vi (["part"]:oq Str) by decide+kernel)]),(λ_ _ _ _ _ _=> @yS _),(λ_ _ _ _ _ _=>#[qu,QG,hr.mono (),T.iM,#v[pv 0]])]]]]]]]
 exists 0,v,"tuple",tyD d,zC d,1,iv.ty,xz _;cases d with
 |tup xs=>
  exists 0,lq ?_;erw[iv,a0,vs,rfl,O,U];have hl:↑xs<=1000:=by
   have hg:=Ya hT;simp![lp,uG] at hg;have:=uq hg.1;omega
  exists 0,a0,vs,1,SqT.of O,λaa A0 Z=>?_;refine Au (tl:= []) (λd=> .bl (my d)) O U (Ye hl) Z (λd0 x0 H3 R ac s3 i3 r=>?_) λH1 ys s1 l1 i1=>?_
  ·exact⟨0,x0,d0,1,i3,λH4 s4=>r _ H4 s4 rfl⟩
  have ey:ys=(xs.map my).map V.bl:=IsL.bls (by rwa[uO])
  exists A0,xs.map my,1,SqL.of (by rw[l1,ey])
  have:(xs.map my).all id=Ln (.tup xs):=by rw[Us];rfl
  rw[this];exact k H1 s1
 |str z=>exact[0:iU (k H (ig.refl _))]
 |non=>exact[0:iU (k H (ig.refl _))]
 |int z=>exact[0:iU (k H (ig.refl _))]
 |bl z=>exact[0:iU (k H (ig.refl _))]
 |lst=>exact[0:iU (k H (ig.refl _))]
 |dct=>exact[0:iU (k H (ig.refl _))]
def KS:#[T,3,a.ZB,a.Z7,["ask","answer"],IU]:=by
 have yw:=#[jv,T];have zr:=#[On,T];exists 9,T.mR,nR,Z
 erw[h,v1,v2,u,d,an,rfl,i1,U,k];exists 3,%[#[qM,#[qr,yl,pv 1,qQ],%[|#[qq,#[Qg,QW,#[qF,Xs,pv 0],qm]]],qv],#[qM,#[Qm,#[qZ,#[qu,yw,Z.mono (),T.li,#v[pv 1]]]],%[|#[qq,YM]],qv],#[qM,#[qr,QW,#[qF,Xs,pv 0],qm],%[|#[qq,#[Qg,8,#[Mi,1,Z.units],pv 1,#[qz,#v[qm,qm]],#[w]]]],qv]|#[qq,#[AcC,7,#[Qg,QW,#[qF,Xs,pv 0],qm],#[XE,#[qu,zr,Z.mono (),T.lH,#v[pv 1]]]]]]
 have two:(2:Nat)<=sizeLine:=by decide
 have es:∀y:Str,decide (V.str u=V.str y)=decide (u=y):=λy=>by
  rw[vd];exact⟨λh=>by injection h,λh=>by rw[h]⟩
 have iu:∀{H:Hp}{Q:VK},Is H (.tup [.str u,d]) v1->Q (.str u) H->NS K v1 (.int 0) H Q:=λ{H Q} i q=>xG (i:=0) (d:= .str u) i (qC (j:=0) rfl) λx hx=>by
  erw[hx,rfl,_];exact q
 exists 0,1,0;unfold AN at k;by_cases cn:an= .non
 ·subst cn;cases(show v2= .non from U)
  refine QI () ?_
  exists 0,.inr (.inl (iu i1 [1:?_]));rw[es];exact k H (ig.refl _)
 ·have aa:v2≠ .non:=jB U cn;have ac:yt an=false:=by
   cases an with
   |non=>exact A8 rfl cn
   |_=>rfl
  rw[ac,A4 ub] at k;refine Qq (ug aa) ?_
  exists 0,v2,an,1,U,λH1 s1=>[0:?_];by_cases O:isT an=v_
  ·rw[A6 O] at k;rw[O];refine iU ?_
   exists 0,.inr (.inl (iu (i1.mono s1.tk) [1:0:?_]));rw[es];by_cases ch:u="has"
   ·rw[A6 ch] at k;refine QI (uh ch) ?_
    exists 0,two,λt1 h1=>?_;have s2:=qf h1 (.tup [.str "yes",.str "no"])
    exists an,t1,["yes","no"],(U.mono s1.tk).mono s2.tk,1,.inr (SqT.of qg),?_,?_,?_,k _ (s1.trans s2)
    ·intro z hz;simp![uH,uW,uS] at hz;rcases hz with rfl|rfl<;>decide+kernel
    ·have hg:=Ya O;cases an with
     |non=>rfl
     |str z=>rfl
     |tup xs=>
      show puL xs=v_;simp![lp,uG] at hg;exact goodL_pu hg.2
     |_=>simp[lp] at hg
    ·have:=xb O;omega
   ·rw[A4 ch] at k;refine Qq (ug ch) ?_
    exists 0,.inr (.inl (iu (i1.mono s1.tk) [1:?_]))
    exists 0;rw[es];by_cases ct:u="thing"
    ·rw[uh ct] at k⊢;refine lq ?_;exact k _ s1
    ·rw[ug ct] at k⊢;refine iU ?_;exact⟨0,v2,an,1,U.mono s1.tk,O,λH2 s2=>k H2 (s1.trans s2)⟩
  ·rw[A4 O] at k;have:isT an=false:=by
    cases h:isT an with
    |true=>exact A8 h O
    |false=>rfl
   rw[this];exact lq (k _ s1)
def Ml:#[C,6,a.Yl,a.Yk,["self","tree"],(L3 a.ql)]:=by
 have qW:=#[kY,T];have O:=#[KS,T];have YT:=#[Ed,T,C];exists 9,T.iD,jA
 erw[h,m,[B,p,n,gs,th],v,u,d,an,rfl,M,hO,al,iv,hR,aP,am,k];exists 3,%[#[qM,#[Qm,#[qZ,#[QE,pv 0,T.qp,T.il,qW]]],%[|JQ],qv],#[qH,(2),jA.nd,#[qF,Xs,#[qO,5,pv 0,rfl]]],#[qM,#[Qm,#[qZ,#[qu,O,hr.mono (),T.mR,#v[pv 2,pv 1]]]],%[|JQ],qv],#[qY,#[XY,vb,vQ,vR,jr,#[qO,5,pv 0,rfl],#v[#[qz,#v[pv 2,pv 1]]]]],#[Jg,10,pv 0,qk,pX],#[qM,#[qr,yl,pv 1,qQ],%[#[Qe,#[qz,#v[qm,qm]]]|NV],qv],#[jj,#[qO,5,pv 0,rfl],#[qF,Xs,#[qF,Xs,#[qF,7,qA,#[qO,5,pv 0,rfl],#[QC,Mh,#[qO,5,pv 0,rfl],qk],(λ_ _=>rfl)]]],pv 1],#[Jg,10,pv 0,qk,pX],#[Qe,qQ]|#[qY,#[QE,pv 0,T.qp,T.iX,YT]]]
 simp only at al;subst al;have two:(2:Nat)<=sizeLine:=by decide
 have hw:Qx (.tup [.str "asks",.tup [.str u,d]])=true:=by simp[Qx]
 erw[hO.ask hw,af,ad,aQ,_];have ag:=hO.p1;have ao:=hO.gs.2.2;have ap:=hO.tr;simp only at af ad aQ ag ao ap;have hM:=M;erw[hM,dx,fs,rv,ru,tv,gv,e,f,ir,ij,ib,hg,gl,it];simp only at f ib gl it;have aR:↑fs<1000:=by have:=f.len;omega
 exists 8,N1,q1
 exists 0,m.x,dx,fs,1,e,f.meth _ (),m,0,M,.inr [_:0],0
 refine Qq (by show(!Qx (.tup [.str "asks",.tup [.str u,d]]))=V1;rw[hw];rfl) ?_
 refine q1 _ _ ?_;exists 8,N2,q2
 exists 0,m.x,_,dx,fs,0,e,T.qp,T.qL,f.there,.inr (.inl (xG (i:=1) it (qC (j:=1) rfl) λq hq=>?_));refine q2 _ _ ?_;exists 8,N3,q3
 exists 0,0,q,v,u,d,an,1,hq,iv,λH1 s1=>[0:?_];rw[am];refine iU ?_;refine q3 _ _ ?_;exists 8,N4,q4;have ha:=AM am
 exists 0,m.x,_,dx,fs,0,s1 _ _ e,T.qp,T.YF,f.given,.inl [1:_:SqL.of (s1 _ _ hg)],0,0,two,λt1 h1=>?_;have s2:=qf h1 (.tup [q,v]);have ip:Is (upd H1 t1 (.tup [q,v])) (.tup [.tup [.str u,d],an]) (.ref t1):=Is.new (ds:= [.tup [.str u,d],an]) ⟨_,0,hq.mono s1.tk,_,0,iv.mono s1.tk,1⟩ h1;have S2:=s1.trans s2;generalize upd H1 t1 (.tup [q,v])=H2 at s2 ip S2⊢;have bh:↑gv=↑gs:=↑gl;have aq:=S2 _ _ hg
 exists m.dg,gv,0,1,aq,X0 ()
 have t3:Tk H2 (upd H2 m.dg (.lst (gv++ [.ref t1]))):=Tk.updL aq;have aS:m.x≠m.dg:=λz=>by rw[<-z,e] at hg;cases hg
 have au:m.db≠m.dg:=λz=>by
  erw[ib,ff,e2,_];rw[z,hg] at e2;cases e2
 have e3:(upd H2 m.dg (.lst (gv++ [.ref t1]))) m.x=u_ (.ins a.ql dx fs):=by rw[qh aS];exact S2 _ _ e
 have T3:Tk H (upd H2 m.dg (.lst (gv++ [.ref t1]))):=S2.tk.trans t3;have aw:=(ib.same S2).move t3 (qh au);have ax:L2.IsL (upd H2 m.dg (.lst (gv++ [.ref t1]))) (gs++ [.tup [.tup [.str u,d],an]]) (gv++ [.ref t1]):=(gl.mono T3).append (IsL.one (ip.mono t3));have ay:(upd H2 m.dg (.lst (gv++ [.ref t1]))) m.dg=u_ (.lst (gv++ [.ref t1])):=qg;have aA:Mv m H (upd H2 m.dg (.lst (gv++ [.ref t1]))):=⟨λb o h _ _ n3=>by rw[qh n3];exact S2 b o h,T3⟩
 generalize upd H2 m.dg (.lst (gv++ [.ref t1]))=H3 at t3 e3 T3 aw ax ay aA⊢;refine q4 _ _ ?_;exists 8,N5,q5
 exists 0,m.x,_,dx,fs,0,e3,T.qp,T.Q8,f.done,(n:Int),(1),1,1,dx,fs,e3,aR;erw[yg (r:=⟨B,p,n+1,gs++ [.tup [.tup [.str u,d],an]],.tup [.str "asks",.tup [.str u,d]]⟩) e3 (f.set_done (k:=n+1)) (ir.mono T3) (ij.mono T3) aw ay ax (it.mono T3),M4,aB];have aa:=aA.trans aB;have aC:=iv.mono aa.tk;refine q5 _ _ ?_;show ni _ _ _ _ (upd H3 m.x (.ins a.ql dx (iE "done" (.int ((n+1:Nat):Int)) fs)));generalize upd H3 m.x (.ins a.ql dx (iE "done" (.int ((n+1:Nat):Int)) fs))=H4 at M4 aB aa aC⊢;erw[M4,Z,U,bo,bp,bq,bt,e4,f4,ah,aD,ac,aE,ak,aF];simp only at f4 ac ak aF;have ae:↑U<1000:=by have:=f4.len;omega
 exists 8,N6,q6
 exists 0,1,0;by_cases cn:an= .non
 ·subst cn;cases(show v= .non from iv)
  refine QI () ?_
  exists two,λl hl=>?_;have s5:=qf hl (.tup [.str "fault",.str "lack"])
  exists 0,m.x,_,Z,U,1,s5 _ _ e4,T.qp,T.qL,ae;erw[yg (r:=⟨B,p,n+1,gs++ [.tup [.tup [.str u,d],.non]],flt "lack"⟩) (s5 _ _ e4) (f4.set_there (u:= .ref l)) (ah.mono s5.tk) (aD.mono s5.tk) (ac.same s5) (s5 _ _ aE) (ak.mono s5.tk) (Is.new (ds:= [.str "fault",.str "lack"]) ⟨_,0,[1:Ye ()],_,0,[1:Ye ()],1⟩ hl),m1,m2]
  exact k _ (aa.trans ((Mv.of s5).trans m2)) m1
 ·have hT:isT an=true:=ha.resolve_left cn;have aT:v≠ .non:=jB iv cn;have aU:yt an=false:=by
   cases an with
   |non=>exact A8 rfl cn
   |_=>rfl
  refine Qq (ug aT) ?_;refine q6 _ _ ?_;exists 8,N7,q7;erw[Abx (hR.ok _ (kr ag af)) ad,z0,z1,aG,aV];have aW:b0 (Yp m.rs p).2=z0:=by rw[aG];rfl
  erw[ac.put aV aC,kvs,aH,aX,t5];have aY:atI (m.rs.map rowD) (p-1)=u_ (rowD (Yp m.rs p)):=by
   rw[show p-1=((p.toNat-1:Nat):Int) by omega]
   exact qC (by rw[uC,DG ag af];rfl)
  have aZ:m.db≠m.x:=YC.ne e4 ac;have a1:m.dg≠m.db:=au.symm
  exists 0,0,m.x,_,Z,U,0,e4,T.qp,T.Qt,f4.boxes,0,m.x,_,Z,U,0,e4,T.qp,T.y9,f4.rows,0,m.x,_,Z,U,0,e4,T.qp,T.Qj,f4.place,_,0,1;refine xG (d:=rowD (Yp m.rs p)) ah aY λq5 a3=>?_;refine .inr (.inl (xG (i:=1) a3 (qC (j:=1) rfl) λq6 aI=>?_));rw[aG] at aI;refine .inr (.inl (xG (i:=0) (d:= .str z0) aI (qC (j:=0) rfl) λq7 a4=>?_));erw[a4,rfl,_]
  exists m.db,0,aH;have e5:(upd H4 m.db (.dK kvs)) m.x=u_ (.ins a.ql Z U):=by rwa[qh aZ.symm]
  refine q7 _ _ ?_;exists 8,N8,q8
  exists 0,m.x,_,Z,U,0,e5,T.qp,T.Qj,f4.place,p,(1),1,1,Z,U,e5,ae;obtain⟨M6,a5⟩:=yg (r:=⟨l9 B z0 an,p+1,n+1,gs++ [.tup [.tup [.str u,d],an]],.tup [.str "asks",.tup [.str u,d]]⟩) e5 (f4.set_place (q:=p+1)) (ah.mono t5) (aD.mono t5) aX (by rwa[qh a1]) (ak.mono t5) (aF.mono t5)
  have aJ:=aa.trans (Mv.trans ⟨λb o h _ a2 _=>by rwa[qh a2],t5⟩ a5)
  erw[M6,a6,aK,bu,bw,bx,bA,e6,f6,a7,a8,aL,a9,aM,bb];simp only at f6 aL aM bb;have aN:↑aK<1000:=by have:=f6.len;omega
  refine q8 _ _ ?_;exists 8,N9,q9
  exists 0,m.x,_,a6,aK,1,e6,T.qp,T.qL,aN;erw[yg (r:=⟨l9 B z0 an,p+1,n+1,gs++ [.tup [.tup [.str u,d],an]],.non⟩) e6 (f6.set_there (u:= .non)) a7 a8 aL a9 aM rfl,M7,bc];have aO:=aJ.trans bc;erw[id M7,bd,bf,bB,bC,bD,bE,e7,f7,r7];refine q9 _ _ ?_
  exists 5
  refine⟨0,m.x,bd,bf,1,e7,f7.meth _ (),m,0,M7,1,kl ap hT,aP,hR,by show 1<=p+1;omega,by show p+1<=_;omega,by show n+1<=300;omega,λH8 bg M8=>k H8 (aO.trans bg) ?_⟩
  unfold l8;rw[aU,A4 ub];simp only;rw[aW];exact M8
nonrec def mU (H:Hp)(p:o6):Prop:=∃x:Int,H p=u_ (.lst [.int x])/\0<=x
def mU.same (h:mU H p)(s:ig H H'):mU H' p:=by
 erw[h,x,e,r];exact[x:s _ _ e:r]
variable {l:o6}
def mU.free (h:mU H p)(n:H l=U_):p≠l:=by
 erw[h,x,e,r];exact qi e n
def mU.tk (h:mU H p)(h':mU H' p)(k:mH p H H'):Tk H H':=by
 erw[h,x,e,_];erw[h',U,O,_];exact k.tk e O
inductive Dj:Sp
 |mk (p:Addr)(many:Int)(_:vs= [.ref p,.int many])(_:mU H p)(_:0<many)(_:many<1073741824)(_:∀(d:Int)(H':Hp),0<=d->d<many->mU H' p->mH p H H'->Q (.int d) H')
inductive Nk:Sp
 |mk (c t:Int)(_:vs= [.int c,.int t])(_:0<=t)(_:t<1000)(_:∀(p:Addr)(H':Hp),H p=U_->ig H H'->mU H' p->Q (.ref p) H')
def An:#[T,1,a.WU,a.WP,["pot","many"],Dj]:=by
 exists 9,T.io,ZM
 erw[h,p,many,rfl,[x,O,Z],hm,U,k];exists 3,%[#[qH,(2),ZM.nd,#[QC,oC,#[qF,Yn,pv 0],pv 1]],#[Mb,6,#[QC,Oe,#[qF,Yn,pv 0],pv 1],#[Aaw,7,pv 0,qk,Ku,_],_,_,_]|#[qq,pv 2]]
 exists 0,p,_,_,0,1,SqL.of O,1,0,_,0,1,hm
 exists 0,p,_,_,0,1,SqL.of O,1,0,_,0,1,[hm:U],0,p,_,_,0,1,O,1
 exists 0;refine k _ _ (TK _ ()) (tu _ hm) [x/many:qg:Int.ediv_nonneg Z ()] (mH.upd _ _ _)
def Oq:#[T,1,a.f_law_pot,a.d_law_pot,["cell","salt"],Nk]:=by
 exists 9,T.na,YE
 erw[h,c,t,rfl,h0,h1,k];exists 3,%[#[qM,#[qr,AcF,#[qD,BU,T.z_abs,boot_abs,#v[pv 0]],#[QC,AaG,qk,qk]],%[|#[qq,#[Y4,#v[#[qD,BU,T.z_abs,boot_abs,#v[pv 0]]]]]],qv],#[qH,(2),YE.nd,#[QC,oC,#[QC,oB,#[QC,Yy,#[QC,Yy,#[QC,oC,pv 0,qk],#[QC,oB,qk,pv 1]],qk],qk],qk]],#[qH,(3),YE.nd,qk],#[yJ,#[jn,#v[qk]],#[qN,(4),YE.nd],%[#[qH,(2),YE.nd,#[QC,oC,#[QC,Yy,#[QC,Yy,#[QC,oB,pv 2,pv 2],#[QC,oB,qk,pv 4]],qk],qk]]|#[qH,(3),YE.nd,#[QC,Yy,#[QC,oB,pv 3,qk],pv 2]]]]|#[qq,#[Y4,#v[pv 3]]]]
 exists 0,0,_,0,1,[():():()],_,0,1,0
 refine nj (λ_=>?_) (λ_=>?_)
 ·exists 0,0,(sml rfl),λp O=>?_;refine k p _ O (qf O _) [_:qg:?_];split<;>omega
 ·exists 0,_,0,1,(by show(0:Int)<2147483647;decide),0,_,0,1,(.inl [():()]),_,0,1,_,0,1,_,0,1,(.inr [():()]),_,0,1,(by show(0:Int)<2147483647;decide),(9),1,(),()
  let J1_:Nat->L2.St->Hp->Prop:=λi σ H'=>E3 λ(x:Int) (b:Int) (kv:ot V)=>A5 (σ= [u_ (.int c),u_ (.int t),u_ (.int x),u_ (.int b),kv]) (0<=x) (x<2147483647) (0<=b) (H'=H)
  refine Xt (n:=9) J1_ ⟨_,_,U_,1,TK _ (),tu _ (),(),1⟩ ?_ ?_
  ·rintro i σ H' hi ⟨x,b,kv,rfl,Z,aa,hb,rfl⟩;have U:Ab8 x x:= .inl [():()]
   exists 0,0,_,0,1,U,0,_,0,1,(.inl [():()]),_,0,1,_,0,1,_,0,1,(by show(0:Int)<2147483629;decide),0,_,0,1,(.inr [():()]),0,_,0,1
   have q0:0<=(x*x+40692*(0+(i:Int))+3)%2147483629:=TK _ ()
   have q1:(x*x+40692*(0+(i:Int))+3)%2147483629<2147483629:=tu _ ()
   exact⟨_,_,0,q0,Int.lt_trans q1 (),Int.add_nonneg (Int.mul_nonneg hb ()) q0,1⟩
  ·rintro σ H' ⟨x,b,kv,rfl,Z,aa,hb,rfl⟩;exact[0:(sml rfl):λp O=>k p _ O (qf O _) [_:qg:hb]]
def mH.of (s:ig H H'):mH p H H':=λb o e _=>s b o e
def mU.ne_strs {zs:oq Str}(h:mU H p)(e:H l=u_ (.lst (zs.map V.str))):l≠p:=λz=>by
 erw[h,x,e2,_];rw[<-z,e] at e2;cases zs with
 |nil=>cases e2
 |cons a r=>simp at e2
def AaW (h:nm z=v_):Cu z=true:=Ee (Mp h)
def LC {vs:oq V}:sU vs U_ (u_ (n:Int))=vs.take n:=by
 unfold sU;rw[HT.sIx_none,HT.sIx_nat,tQ,Nat.sub_zero];rcases Ti n ↑vs with h|h
 ·rw[UM h]
 ·rw[Nat.min_eq_right h,vf (uA _),vf h]
inductive NB:Sp
 |mk (v:V)(d:D)(_:vs= [v])(_:Is H d v)(_:∀(u:V)(H':Hp),ig H H'->((QK d).isSome=v_->u= .non)->((QK d).isSome=V1->u≠ .non)->Q u H')
inductive Dr:Sp
 |mk (v:V)(d:D)(_:vs= [v])(_:Is H d v)(_:∀H',ig H H'->Q (.bl (QK d).isSome) H')
def OG:#[C,4,a.WL,a.WI,["tree"],NB]:=by
 have Z:=#[D9,T,C];exists 9,T.mX,sZ
 erw[h,v,d,rfl,hv,k];exists 3,%[|#[qq,#[qF,qA,#[qu,Z,hr.mono (),T.lU,#v[pv 0]]]]]
 exists 0,v,d,1,hv,λu H' x y s' U hu=>?_;erw[hu,p,ws,rfl,hp,w1,r1,rfl,h1,w2,r2,rfl,h2,h3];cases(show r2= [] from h3)
 exists p,_,_,0,1,SqT.of hp,1,k _ H' s' (λe=>?_) (λe=>?_)
 ·erw[Xh e,rs,O];erw[U.1 rs O,_,rfl];exact h2
 ·have hn:QK d=none:=by
   cases hh:QK d with
   |none=>rfl
   |some rs=>rw[hh] at e;cases e
  erw[U.2 hn,i,rfl];intro z;rw[z] at h2;cases(show V.non= .int i from h2)
def oI:#[C,5,a.f_is_rule,a.d_is_rule,["value"],Dr]:=by
 have O:=#[OG,T,C];exists 9,T.mJ,Cf,U
 erw[h,v,d,rfl,Z,k];exists 3,%[|#[qq,#[Qg,yl,#[qu,O,U.mono (),T.mX,#v[pv 0]],qQ]]]
 exists 0,v,d,1,Z,λu H' s' h1 h2=>[1:?_];have e:decide (u=V.non)=(QK d).isSome:=by
  cases c:(QK d).isSome with
  |true=>rw[h1 c];rfl
  |false=>exact ug (h2 c)
 have:=k H' s';rwa[<-e] at this
end
def DF {n:Nat}:∀{ds:oq D},(∀d∈ds,(Qn n d).isSome=v_)->↑(ds.filterMap (Qn n))=↑ds/\ds=(ds.filterMap (Qn n)).map (λr=>D.str (yM r))/\∀r∈ds.filterMap (Qn n),j8 n 300 r
 | [],_=>[1:1:λr h=>nomatch h]
 |d::ds,h=>by
  erw[Xh (h d ui),r,O];obtain⟨h1,h2,h3⟩:=DF (n:=n) (ds:=ds) λx U=>h x (uj _ U);have hd:d= .str (yM r)/\j8 n 300 r:=by
   cases d with
   |str z=>
    obtain⟨Z,a2⟩:=Bc (show wk n z=u_ r from O)
    exact⟨by rw[a2],Z⟩
   |non=>cases O
   |bl b=>cases O
   |int i=>cases O
   |lst=>cases O
   |dct=>cases O
   |tup xs=>cases O
  rw[Ub O];exists by rw[uB,uB,h1],by rw[uD,<-h2,hd.1],λx U=>?_
  rcases Aa.mp U with rfl|U
  ·exact hd.2
  ·exact h3 x U
variable {rs:oq Rw}
def nZ {d:D}(h:QK d=u_ rs):d=yE rs/\QL rs:=by
 cases d with
 |tup ds=>
  rw[Xv] at h;split at h
  ·rename_i O
   simp![uG,vi] at O;erw[O,[[c1,c2],U],Z];cases h;erw[DF (List.all_eq_true.mp U),h1,h2,h3];have e:D.tup ds=yE (ds.filterMap (Qn ↑ds)):=by
    unfold yE;rw[<-h2]
   refine⟨e,⟨(),(),?_,by rwa[<-e]⟩⟩
   rwa[h1]
  ·cases h
 |non=>cases h
 |bl b=>cases h
 |int i=>cases h
 |str z=>cases h
 |lst=>cases h
 |dct=>cases h
nonrec def GMT:oq Str:= ["begin","look","wanted","take","full"]
structure GFl (fs:oq (Str×V))(nv ov mv av rv ev:V):Prop where
 zT:fs.lookup ("name":Str)=u_ nv
 wE:fs.lookup ("order":Str)=u_ ov
 YN:fs.lookup ("made_by":Str)=u_ mv
 yY:fs.lookup ("rule_asks":Str)=u_ av
 Qr:fs.lookup ("rule_run":Str)=u_ rv
 f_end:fs.lookup ("end":Str)=u_ ev
 meth:∀m∈GMT,fs.lookup m=U_
 len:↑fs<=20
section
variable {fs:oq (Str×V)}{nv ov mv av rv ev:V}
def GFl.set_made_by {u:V}(h:GFl fs nv ov mv av rv ev):GFl (iE "made_by" u fs) nv ov u av rv ev:=by
 refine⟨?_,?_,?_,?_,?_,?_,λm hm=>?_,by rw[Y6 h.YN];exact h.len⟩
 all_goals rw[qI]
 all_goals first|rw[A6 rfl]|(rw[A4 ()];first|exact h.zT|exact h.wE|exact h.YN|exact h.yY|exact h.Qr|exact h.f_end)|(rw[A4 (λe=>by subst e;revert hm;decide+kernel)];exact h.meth m hm)
def GFl.set_rule_asks {u:V}(h:GFl fs nv ov mv av rv ev):GFl (iE "rule_asks" u fs) nv ov mv u rv ev:=by
 refine⟨?_,?_,?_,?_,?_,?_,λm hm=>?_,by rw[Y6 h.yY];exact h.len⟩
 all_goals rw[qI]
 all_goals first|rw[A6 rfl]|(rw[A4 ()];first|exact h.zT|exact h.wE|exact h.YN|exact h.yY|exact h.Qr|exact h.f_end)|(rw[A4 (λe=>by subst e;revert hm;decide+kernel)];exact h.meth m hm)
def GFl.set_rule_run {u:V}(h:GFl fs nv ov mv av rv ev):GFl (iE "rule_run" u fs) nv ov mv av u ev:=by
 refine⟨?_,?_,?_,?_,?_,?_,λm hm=>?_,by rw[Y6 h.Qr];exact h.len⟩
 all_goals rw[qI]
 all_goals first|rw[A6 rfl]|(rw[A4 ()];first|exact h.zT|exact h.wE|exact h.YN|exact h.yY|exact h.Qr|exact h.f_end)|(rw[A4 (λe=>by subst e;revert hm;decide+kernel)];exact h.meth m hm)
def GFl.set_end {u:V}(h:GFl fs nv ov mv av rv ev):GFl (iE "end" u fs) nv ov mv av rv u:=by
 refine⟨?_,?_,?_,?_,?_,?_,λm hm=>?_,by rw[Y6 h.f_end];exact h.len⟩
 all_goals rw[qI]
 all_goals first|rw[A6 rfl]|(rw[A4 ()];first|exact h.zT|exact h.wE|exact h.YN|exact h.yY|exact h.Qr|exact h.f_end)|(rw[A4 (λe=>by subst e;revert hm;decide+kernel)];exact h.meth m hm)
end
structure Gc where
 (x o:o6)
 n:Str
structure Gs where
 mb:D
 ra:oq D
 run:ot (Mc×Rn)
 en:D
nonrec def Wb (CM:o6)(H:Hp)(x:o6)(rv:V):ot (Mc×Rn)->Prop
 |none=>rv= .non
 |some (m,r)=>rv= .ref m.x/\m.x≠x/\yo CM H m r
nonrec def md (C CM:o6)(H:Hp)(g:Gc)(s:Gs):Prop:=
 ∃(dx:o6) (fs:oq (Str×V)) (mv av rv ev:V),H g.x=u_ (.ins C dx fs)/\GFl fs (.str g.n) (.ref g.o) mv av rv ev/\Is H s.mb mv/\Is H (.tup s.ra) av/\Wb CM H g.x rv s.run/\Is H s.en ev
variable {CM:o6}
def Wb.same {x:o6}{o:ot (Mc×Rn)}(h:Wb CM H x rv o)(s:ig H H'):Wb CM H' x rv o:=by
 cases o with
 |none=>exact h
 |some p=>exact[h.1:h.2.1:h.2.2.same s]
def md.same {g:Gc}{s:Gs}(h:md C CM H g s)(sm:ig H H'):md C CM H' g s:=by
 erw[h,dx,fs,mv,av,rv,ev,e,f,i,j,k,l];exact⟨dx,fs,mv,av,rv,ev,sm _ _ e,f,i.mono sm.tk,j.mono sm.tk,k.same sm,l.mono sm.tk⟩
def yo.put {m:Mc}{r:Rn}{x:o6}{fs:oq (Str×V)}(h:yo CM H m r)(e:H x=u_ (.ins C dx fs))(n:m.x≠x):yo CM (upd H x (.ins C dx fs')) m r:=by
 erw[h,U,Z,rv,ru,tv,gv,e1,f,i,j,b,O,gl,t];have tk:Tk H (upd H x (.ins C dx fs')):=Tk.updI e;have n1:m.db≠x:=YC.ne e b;have n2:m.dg≠x:=λz=>by rw[z,e] at O;cases O
 exact⟨U,Z,rv,ru,tv,gv,by rwa[qh n],f,i.mono tk,j.mono tk,b.move tk (qh n1),by rwa[qh n2],gl.mono tk,t.mono tk⟩
def Wb.put {x:o6}{fs:oq (Str×V)}{o:ot (Mc×Rn)}(h:Wb CM H x rv o)(e:H x=u_ (.ins C dx fs)):Wb CM (upd H x (.ins C dx fs')) x rv o:=by
 cases o with
 |none=>exact h
 |some p=>exact[h.1:h.2.1:h.2.2.put e h.2.1]
structure Gv (g:Gc)(H H':Hp):Prop where
 kept:∀b o,H b=u_ o->b≠g.x->H' b=u_ o
 tk:Tk H H'
def Wo {g:Gc}{fs:oq (Str×V)}{mv av ev:V}{s:Gs}(e:H g.x=u_ (.ins C dx fs))(f:GFl fs' (.str g.n) (.ref g.o) mv av rv ev)(i:Is H s.mb mv)(j:Is H (.tup s.ra) av)(k:Wb CM H g.x rv s.run)(l:Is H s.en ev):
  md C CM (upd H g.x (.ins C dx fs')) g s/\Gv g H (upd H g.x (.ins C dx fs')):=by
 have tk:Tk H (upd H g.x (.ins C dx fs')):=Tk.updI e;exact⟨⟨dx,fs',mv,av,rv,ev,qg,f,i.mono tk,j.mono tk,k.put e,l.mono tk⟩,⟨λb o h n=>by rwa[qh n],tk⟩⟩
nonrec def oQ (s:Gs)(r:Rn):Gs:=if Qx r.th=v_ then s else{s with en:=r.th}
inductive Nr (C CM:Addr):Sp
 |mk (g:Gc)(s:Gs)(m:Mc)(r:Rn)(_:vs= [.ref g.x])(_:md C CM H g s)(_:s.run=u_ (m,r))(_:Th r.th)(_:∀H',Gv g H H'->md C CM H' g (oQ s r)->Q .non H')
section
variable {P:oh}{w:oj}{K:o0}{mg:Str->ot o7}{base:og}{a:Ad}{g:Ga}
def Eb:#[T,2,a.zN,a.Ze,["self"],(Nr a.qJ a.ql)]:=by
 have qW:=#[kY,T];have Qp:=#[oG,T];exists 9,T.lY,kU
 erw[h,g,st,m,r,rfl,hG,O,aa,k];exists 3,%[|#[qM,#[Qm,#[qZ,#[QE,#[qO,5,pv 0,rfl],T.qp,T.il,qW]]],%[|#[Qe,#[QE,#[qO,5,pv 0,rfl],T.qp,T.iB,Qp]]],qv]]
 erw[id hG,dx,fs,mv,av,rv,ev,e,f,i,j,hR,l];rw[O] at hR;erw[hR,rfl,hn,Z];erw[id Z,dm,fm,ac,ru,tv,gv,em,U,i1,i2,i3,i4,i5,i6]
 exists 0,g.x,_,dx,fs,0,e,T.qP,T.qT,f.Qr,m.x,dm,fm,1,em,U.meth _ (),m,r,1,Z,aa,0
 cases c:Qx r.th with
 |true=>
  refine iU (k H [λ_ _ h _=>h:Tk.refl H] ?_);unfold oQ;rwa[A6 c]
 |false=>
  refine lq ?_
  exists 0,g.x,_,dx,fs,0,e,T.qP,T.qT,f.Qr,m.x,dm,fm,1,em,U.meth _ (),m,r,1,Z,λv hv=>?_
  exists 5
  refine⟨0,g.x,_,dx,fs,1,e,T.qP,T.QZ,by have:=f.len;omega,?_⟩
  have hS:oQ st r={st with en:=r.th}:=by
   unfold oQ;rw[c];exact A4 ub
  obtain⟨m1,m2⟩:=Wo (CM:=a.ql) (s:={st with en:=r.th}) e (f.set_end (u:=v)) i j (by rw[O];exact[1:hn:Z]) hv
  refine k _ m2 ?_;rw[hS];exact m1
inductive Dm (CM:Addr):Sp
 |mk (o:Addr)(v:V)(rs:List Rw)(own:Str)(_:vs= [.ref o,v,.str own])(_:Is H (yE rs) v)(_:QL rs)(_:nm own=v_)(_:∀(mc:Mc)(H':Hp),ig H H'->H mc.x=U_->H mc.db=U_->H mc.dg=U_->mc.rs=rs->mc.own=own->yo CM H' mc (mn rs own [] 300 B0 1 0)->Q (.ref mc.x) H')
def D7:#[C,8,a.YI,a.YZ,["self","rule","own"],(Dm a.ql)]:=by
 have yb:=#[W7,T,C];exists 9,T.i9,JV
 erw[h,o,v,rs,own,rfl,hv,hR,hn,k];have hl:=wM hn;have hI:∀H:Hp,Is H (.str own) (.str own):=λH=>Qb ()
 exists 3,%[|#[qq,#[X8,T.ZI,yb,T.Zy,T.iQ,Am,#v[pv 1,pv 2]]]]
 exists 0,0,λx dx Z aa nx=>?_;have U:ig H (upd (upd H dx (.own x)) x (.ins a.ql dx [])):=λb o h=>by rwa[qh (qi h Z),qh (qi h aa)]
 exists x,dx,v,.str own,yE rs,.str own,1,qg,hv.mono U.tk,hI _,λz=>?_,λ_ z=>?_,λO af e1 ac e2 ag ah H' db dg kept ad ae hM=>[1:?_]
 ·rw[hR.read] at z;cases z
 ·have:my (.str own)=true:=hn;rw[this] at z;cases z
 ·have e3:O=rs:=by
   have h1:=hR.read;rw[e1,ac.read] at h1;exact uM h1
  cases e2;subst e3;exact k ⟨x,db,dg,O,own⟩ H' (λb o h=>kept b o (U b o h) (qi h Z)) Z (U.free ad) (U.free ae) rfl rfl hM
nonrec def R0 (rs:oq Rw)(n:Str):Rn:=mn rs n [] 300 B0 1 0
structure LL (H:Hp)(g:Gc)(d:D)(s s':Gs):Prop where
 mb:s'.mb=s.mb
 ra:s'.ra=s.ra
 lack:d= .non->s'.run=U_/\s'.en=flt "lack"
 rule:d≠ .non->QK d=U_->s'.run=U_/\s'.en=flt "rule"
 go:∀rs,QK d=u_ rs->∃mc:Mc,H mc.x=U_/\H mc.db=U_/\H mc.dg=U_/\mc.rs=rs/\mc.own=g.n/\s'.run=u_ (mc,R0 rs g.n)/\s'.en=if Qx (R0 rs g.n).th=v_ then s.en else(R0 rs g.n).th
inductive IZ (C CM CO:Addr):Sp
 |mk (g:Gc)(s:Gs)(v:V)(d:D)(_:vs= [.ref g.x,v])(_:md C CM H g s)(_:s.run=U_)(_:nm g.n=v_)(_:Is H d v)(_:(∃dx fs,H g.o=u_ (.ins CO dx fs)/\fs.lookup ("runner":Str)=U_))(_:∀H' s',Gv g H H'->md C CM H' g s'->LL H g d s s'->Q .non H')
def LI {n:Str}(h:QL rs):CU rs (R0 rs n):=Ah h 300 B0 1 0 [] rfl P7 () (by have:=h.n0;omega) ⟨1,by simp[dpL],uA _⟩
def Ac8 {n:Str}(h:QL rs):Th (R0 rs n).th:= .inr (LI h).two
def Bu:#[C,9,a.XV,a.Xf,["self","rule"],(IZ a.qJ a.ql a.qo)]:=by
 have wO:=#[oI,T,C];have xH:=#[D7,T,C];have Jd:=#[Eb,T];exists 9,T.lO,Wf
 erw[h,g,st,v,d,rfl,hG,O,hn,hv,[ad,ae,ho,af],k];have hs:=uE;erw[id hG,dx,fs,mv,av,rv,ev,e,f,i,j,hR,l];rw[O] at hR;exists 3,%[|#[qM,#[qr,yl,pv 1,qQ],%[|#[Qe,#[qz,#v[qm,qm]]]],%[|#[qM,#[Qm,#[qZ,#[qu,wO,hr.mono (),T.mJ,#v[pv 1]]]],%[|#[Qe,#[qz,#v[qm,qm]]]],%[#[Qe,#[Qf,#[qO,5,pv 0,rfl],T.qy,T.i9,xH,#v[pv 1,#[qO,5,pv 0,rfl]]]]|#[qY,#[QE,pv 0,T.qP,T.lY,Jd]]]]]]]
 exists 0,1,0;have fl:∀(z:Str) (H:Hp) (l:o6),↑z<=100->H l=U_->Is (upd H l (.tup [.str "fault",.str z])) (flt z) (.ref l):=λz H l hz hl=>Is.new (ds:= [.str "fault",.str z]) ⟨_,0,Qb (),_,0,Qb (),1⟩ hl
 have aa:↑fs<1000:=by have:=f.len;omega
 have put:∀(z:Str) (t:o6) (H':Hp),↑z<=100->ig H H'->H' t=U_->((d= .non->z="lack")/\(d≠ .non->z="rule"/\QK d=U_))->Q .non (upd (upd H' t (.tup [.str "fault",.str z])) g.x (.ins a.qJ dx (iE "end" (.ref t) fs))):=λz t H' hz s' Z hd=>by
  have s1:=s'.trans (qf Z (.tup [.str "fault",.str z]));obtain⟨m1,m2⟩:=Wo (CM:=a.ql) (g:=g) (s:={st with en:=flt z}) (s1 _ _ e) (f.set_end (u:= .ref t)) (i.mono s1.tk) (j.mono s1.tk) (by show Wb _ _ _ _ st.run;rwa[O]) (fl z H' t hz Z)
  refine k _ _ [λb o h n=>m2.kept b o (s1 b o h) n:s1.tk.trans m2.tk] m1 ⟨1,1,λh=>⟨O,by rw[hd.1 h]⟩,λh _=>⟨O,by rw[(hd.2 h).1]⟩,λrs h=>?_⟩
  by_cases c:d= .non
  ·rw[c] at h;cases h
  ·rw[(hd.2 c).2] at h;cases h
 by_cases c:d= .non
 ·subst c;cases(show v= .non from hv)
  refine lN (uh rfl) [(sml rfl):λt Z=>?_]
  exists 0,g.x,_,dx,fs,1,(qf Z _) _ _ e,T.qP,T.QZ,aa;exact put "lack" t H () (ig.refl _) Z [λ_=>rfl:λh=>A8 rfl h]
 ·refine iR (ug (jB hv c)) ?_
  exists 0,v,d,1,hv,λH1 s1=>[0:?_];cases hd:QK d with
  |none=>
   refine lq [(sml rfl):λt Z=>?_]
   exists 0,g.x,_,dx,fs,1,(qf Z _) _ _ (s1 _ _ e),T.qP,T.QZ,aa;exact put "rule" t H1 () s1 Z [λh=>A8 h c:λ_=>[1:hd]]
  |some rs=>
   refine iU ?_;erw[nZ hd,ed,ac];have e1:=s1 _ _ e
   exists 5
   refine⟨0,g.x,_,dx,fs,0,e1,T.qP,T.XT,f.wE,g.o,ad,ae,1,s1 _ _ ho,af,0,0,g.x,_,dx,fs,0,e1,T.qP,T.Yf,f.zT,g.o,v,rs,g.n,1,by rw[<-ed];exact hv.mono s1.tk,ac,hn,λmc H2 s2 nx nb ng ers ag hM=>?_⟩
   have e2:=s2 _ _ e1;have U:=s1.trans s2
   exists 0,g.x,_,dx,fs,1,e2,T.qP,T.qT,aa;have ah:mc.x≠g.x:=(qi e1 nx).symm;erw[Wo (C:=a.qJ) (CM:=a.ql) (g:=g) (s:={st with run:=u_ (mc,R0 rs g.n)}) e2 (f.set_rule_run (u:= .ref mc.x)) (i.mono U.tk) (j.mono U.tk) [1:ah:hM] (l.mono U.tk),m1,m2]
   erw[id m1,ak,al,_,_,_,_,e3,f3,_]
   exists 0,g.x,ak,al,1,e3,f3.meth _ (),g,_,mc,R0 rs g.n,1,m1,1,Ac8 ac,λH3 v3 G3=>k H3 _ [λb o h n=>v3.kept b o (m2.kept b o (U b o h) n) n:(U.tk.trans m2.tk).trans v3.tk] G3 ?_
   unfold oQ
   exists 5
   refine⟨by split<;>rfl,by split<;>rfl,λh=>A8 h c,(λ_ h=>by rw[hd] at h;cases h),λam h=>?_⟩
   rw[hd] at h;cases h
   exists 5
   refine⟨mc,s1.free nx,s1.free nb,s1.free ng,ers,ag,by split<;>rfl,?_⟩
   split<;>rfl
inductive Xx (C CM:Addr):Sp
 |mk (g:Gc)(s:Gs)(_:vs= [.ref g.x])(_:md C CM H g s)(_:((s.run=U_/\∃z,s.mb= .str z/\∀v H',ig H H'->Is H' (.tup [.str "rule",.str z]) v->Q v H')∨∃mc r d,s.run=u_ (mc,r)/\r.th= .tup [.str "asks",d]/\∀v,Is H d v->Q v H))
nonrec def Aae:ot (Mc×Rn)->oq D
 |none=> []
 |some (_,r)=>r.gs
nonrec def Lw (s:Gs):D:= .tup [.tup (s.ra++Aae s.run),s.en]
inductive Nx (C CM:Addr):Sp
 |mk (g:Gc)(s:Gs)(_:vs= [.ref g.x])(_:md C CM H g s)(_:↑s.ra+↑(Aae s.run)<=1000)(_:∀v H',ig H H'->Is H' (Lw s) v->Q v H')
variable {v:V}{Q:VK}
def Pw {K:o0}{xs ys:oq D}{u:V}(O:Is H (.tup xs) v)(U:Is H (.tup ys) u)(hl:↑xs+↑ys<=1000)(k:∀p H',ig H H'->Is H' (.tup (xs++ys)) p->Q p H'):KA K v u H Q:=by
 erw[id O,a,vs,rfl,ha,Z];erw[id U,b,us,rfl,hb,ib];have la:=↑Z;have lb:=↑ib;have hs:=uE;exists a,b,vs,us,1,1,SqT.of ha,SqT.of hb,(),λe=>?_,λ_ e=>?_,λ_ _ p hp=>?_
 ·have:xs= []:=List.length_eq_zero_iff.mp (by rw[e] at la;simpa using la.symm)
  rw[this] at k;exact k _ H (ig.refl _) U
 ·have:ys= []:=List.length_eq_zero_iff.mp (by rw[e] at lb;simpa using lb.symm)
  rw[this,uX] at k;exact k _ H (ig.refl _) O
 ·have n:=qf hp (.tup (vs++us));exact k _ _ n ⟨p,0,qg,(Z.append ib).mono n.tk⟩
def D3:#[T,2,a.JY,a.J6,["self"],(Xx a.qJ a.ql)]:=by
 have Qp:=#[oG,T];exists 9,T.mj,wN
 erw[h,g,st,rfl,hG,h];have hs:=uE;erw[id hG,dx,fs,mv,av,rv,ev,e,f,i,j,U,l];exists 3,%[#[qM,#[qr,yl,#[qO,5,pv 0,rfl],qQ],%[|#[qq,#[qz,#v[qm,#[qO,5,pv 0,rfl]]]]],qv]|#[qq,#[qF,Xs,#[QE,#[qO,5,pv 0,rfl],T.qp,T.iB,Qp]]]]
 exists 0,g.x,_,dx,fs,0,e,T.qP,T.qT,f.Qr,1,0;rcases h with⟨O,z,hz,k⟩|⟨mc,r,d,O,Z,k⟩
 ·rw[O] at U;cases(show rv= .non from U)
  rw[hz] at i;obtain⟨rfl,hl⟩:=(show mv= .str z/\↑z<=V5 from i)
  refine lN (uh rfl) ⟨0,g.x,_,dx,fs,0,e,T.qP,T.yC,f.YN,(sml rfl),λt ht=>?_⟩;exact k _ _ (qf ht _) (Is.new ⟨_,0,Qb (),_,0,[1:hl],1⟩ ht)
 ·rw[O] at U;erw[U,rfl,hn,hM];erw[id hM,dm,fm,ac,ru,tv,gv,em,aa,i1,i2,i3,i4,i5,i6];refine iR (ug (λz=>by cases z)) ?_
  exists 0,g.x,_,dx,fs,0,e,T.qP,T.qT,f.Qr,mc.x,dm,fm,1,em,aa.meth _ (),mc,r,1,hM,λv hv=>?_
  rw[Z] at hv;exact .inr (.inl (xG (i:=1) (d:=d) hv (qC (j:=1) rfl) λq hq=>k q hq))
def OA:#[T,2,a.zU,a.zW,["self"],(Nx a.qJ a.ql)]:=by
 have wX:=#[OH,T];exists 9,T.mG,XO
 erw[h,g,st,rfl,hG,hl,k];have hs:=uE;erw[id hG,dx,fs,mv,av,rv,ev,e,f,i,j,Z,l];exists 3,%[#[qH,(1),XO.nd,#[Q2,#[qr,yl,#[qO,5,pv 0,rfl],qQ],#[qz,qd],#[QE,#[qO,5,pv 0,rfl],T.qp,T.l6,wX]]]|#[qq,#[qz,#v[#[QC,kW,#[qO,5,pv 0,rfl],pv 1],#[qO,5,pv 0,rfl]]]]]
 have fin:∀(v:V) (H1:Hp),ig H H1->Is H1 (.tup (Aae st.run)) v->Ach K (Sm 0) "rule_asks" [u_ (.ref g.x),u_ v] H1 λx H2=>Sm 1 [u_ (.ref g.x),u_ v] H2 λy H3=>KA K x y H3 λz H4=>Ach K (Sm 0) "end" [u_ (.ref g.x),u_ v] H4 λu H5=> [z,u].length<=V5/\∀p,H5 p=U_->Q (.ref p) (upd H5 p (.tup [z,u])):=λv H1 s1 hv=>by
  exists 0,g.x,_,dx,fs,0,s1 _ _ e,T.qP,T.yO,f.yY,0;refine Pw (j.mono s1.tk) hv hl λz H4 s4 i4=>?_;have U:=s1.trans s4
  exists 0,g.x,_,dx,fs,0,U _ _ e,T.qP,T.QZ,f.f_end,(sml rfl),λp hp=>?_;have n:=qf hp (.tup [z,ev]);exact k _ _ (U.trans n) (Is.new ⟨_,0,i4,_,0,l.mono U.tk,1⟩ hp)
 exists 0,g.x,_,dx,fs,0,e,T.qP,T.qT,f.Qr,1,0;cases O:st.run with
 |none=>
  rw[O] at Z fin;cases(show rv= .non from Z)
  refine lN (uh rfl) [(sml rfl):λt ht=>?_];exact fin _ _ (qf ht _) (Is.new (ds:= []) rfl ht)
 |some p=>
  erw[p,mc,r];rw[O] at Z fin;erw[Z,rfl,hn,hM];erw[id hM,dm,fm,ac,ru,tv,gv,em,aa,i1,i2,i3,i4,i5,i6];refine iR (ug (λz=>by cases z)) ?_
  exists 0,g.x,_,dx,fs,0,e,T.qP,T.qT,f.Qr,mc.x,dm,fm,1,em,aa.meth _ (),mc,r,1,hM,λv H1 s1 hv=>?_
  exact fin v H1 s1 hv
structure Gw (g:Gc)(o:ot (Mc×Rn))(H H':Hp):Prop where
 kept:∀b ob,H b=u_ ob->b≠g.x->(∀mc r,o=u_ (mc,r)->b≠mc.x/\b≠mc.db/\b≠mc.dg)->H' b=u_ ob
 tk:Tk H H'
inductive XC (C CM CO:Addr):Sp
 |mk (g:Gc)(s:Gs)(v:V)(d:D)(_:vs= [.ref g.x,v])(_:md C CM H g s)(_:nm g.n=v_)(_:Is H d v)(_:g.o≠g.x)(_:(∃dx fs,H g.o=u_ (.ins CO dx fs)/\fs.lookup ("runner":Str)=U_))(_:((s.run=U_/\∃z,s.mb= .str z/\∀H' s',Gw g s.run H H'->md C CM H' g s'->LL H g d {s with ra:= [.tup [.tup [.str "rule",.str z],d]]} s'->Q .non H')∨∃mc r u q,s.run=u_ (mc,r)/\mc.own=g.n/\QL mc.rs/\CU mc.rs r/\r.th= .tup [.str "asks",.tup [.str u,q]]/\AN u d=v_/\∀H',Gw g s.run H H'->md C CM H' g (oQ {s with run:=u_ (mc,l8 mc.rs mc.own r d)} (l8 mc.rs mc.own r d))->Q .non H'))
def AcV {g:Gc}{s:Gs}{mc:Mc}{r r':Rn}(h:md C CM H g s)(U:s.run=u_ (mc,r))(v:Mv mc H H')(Z:yo CM H' mc r'):md C CM H' g {s with run:=u_ (mc,r')}:=by
 erw[h,dx,fs,mv,av,rv,ev,e,f,i,j,k,l];rw[U] at k;erw[k,rfl,hn,hm];erw[id hm,dm,fm,aa,ru,tv,gv,em,ac,i1,i2,i3,O,i5,i6];have n1:g.x≠mc.db:=(YC.ne e i3).symm;have n2:g.x≠mc.dg:=λz=>by rw[<-z,e] at O;cases O
 exact⟨dx,fs,mv,av,_,ev,v.kept _ _ e hn.symm n1 n2,f,i.mono v.tk,j.mono v.tk,[1:hn:Z],l.mono v.tk⟩
def KU:#[C,10,a.Zb,a.Zg,["self","answer"],(XC a.qJ a.ql a.qo)]:=by
 have jG:=#[Bu,T,C];have Jd:=#[Eb,T];have Yr:=#[Ml,T,C];exists 9,T.lc,ke
 erw[h,U,st,v,d,rfl,hG,hn,hv,am,[ao,ap,ho,aq],h];have hs:=uE;erw[id hG,dx,fs,mv,av,rv,ev,e,f,i,j,hR,l];exists 3,%[|#[qM,#[qr,yl,#[qO,5,pv 0,rfl],qQ],%[#[Qe,#[qz,#v[#[qz,#v[#[qz,#v[qm,#[qO,5,pv 0,rfl]]],pv 1]]]]]|#[qY,#[Qf,pv 0,T.qP,T.lO,jG,#v[pv 1]]]],%[#[qY,#[Qf,#[qO,5,pv 0,rfl],T.qp,T.iD,Yr,#v[pv 1]]]|#[qY,#[QE,pv 0,T.qP,T.lY,Jd]]]]]
 exists 0,U.x,_,dx,fs,0,e,T.qP,T.qT,f.Qr,1,0;rcases h with⟨O,z,hz,k⟩|⟨mc,r,u,q,O,au,ad,ae,af,Z,k⟩
 ·rw[O] at hR;cases(show rv= .non from hR)
  refine lN (uh rfl) ?_;rw[hz] at i;obtain⟨rfl,hl⟩:=(show mv= .str z/\↑z<=V5 from i)
  have aw:↑fs<1000:=by have:=f.len;omega
  exists 0,U.x,_,dx,fs,0,e,T.qP,T.yC,f.YN,(sml rfl),λt1 ag=>?_;have m1:=qf ag (.tup [V.str "rule",V.str z]);have k1:Is (upd H t1 (.tup [V.str "rule",V.str z])) (.tup [.str "rule",.str z]) (.ref t1):=Is.new ⟨_,0,Qb (),_,0,[1:hl],1⟩ ag
  exists 0,(sml rfl),λt2 ah=>?_;have m2:=qf ah (.tup [V.ref t1,v]);have k2:=Is.new (ds:= [.tup [.str "rule",.str z],d]) ⟨_,0,k1,_,0,hv.mono m1.tk,1⟩ ah
  exists (sml rfl),λt3 ak=>?_;have m3:=qf ak (.tup [V.ref t2]);have k3:=Is.new (ds:= [.tup [.tup [.str "rule",.str z],d]]) ⟨_,0,k2,1⟩ ak;have s3:=(m1.trans m2).trans m3
  exists 0,U.x,_,dx,fs,1,s3 _ _ e,T.qP,T.yO,aw;have iz:Is H (.str z) (.str z):=[1:hl];obtain⟨p1,p2⟩:=Wo (C:=a.qJ) (CM:=a.ql) (g:=U) (s:={st with ra:= [.tup [.tup [.str "rule",.str z],d]]}) (s3 _ _ e) (f.set_rule_asks (u:= .ref t3)) (by show Is _ st.mb _;rw[hz];exact iz.mono s3.tk) k3 (by show Wb _ _ _ _ st.run;rw[O];rfl) (l.mono s3.tk)
  erw[id p1,aa,ac,_,_,_,_,e3,f3,_];have al:=s3.tk.trans p2.tk
  exists 0,U.x,aa,ac,1,e3,f3.meth _ (),0,U,_,v,d,1,p1,O,hn,hv.mono al,⟨ao,ap,p2.kept _ _ (s3 _ _ ho) am,aq⟩,λH4 s4 v4 G4 b4=>k H4 s4 [λb ob h n _=>v4.kept b ob (p2.kept b ob (s3 b ob h) n) n:al.trans v4.tk] G4 ⟨b4.mb,b4.ra,b4.lack,b4.rule,λrs h=>?_⟩
  erw[b4.go rs h,mc,c1,c2,c3,c4];have fr:∀b,upd (upd (upd (upd H t1 (.tup [V.str "rule",V.str z])) t2 (.tup [V.ref t1,v])) t3 (.tup [V.ref t2])) U.x (.ins a.qJ dx (iE "rule_asks" (.ref t3) fs)) b=U_->H b=none:=λb hb=>by
   cases hc:H b with
   |none=>rfl
   |some ob=>
    by_cases c:b=U.x
    ·rw[c,qg] at hb;cases hb
    ·rw[p2.kept b ob (s3 b ob hc) c] at hb;cases hb
  exact⟨mc,fr _ c1,fr _ c2,fr _ c3,c4⟩
 ·rw[O] at hR;erw[hR,rfl,aA,hM];erw[id hM,dm,fm,aB,ru,tv,gv,em,ax,i1,i2,i3,i4,i5,i6];refine iR (ug (λz=>by cases z)) ?_
  have ay:↑mc.own<=100:=by rw[au];have:=wM hn;omega
  exists 0,U.x,_,dx,fs,0,e,T.qP,T.qT,f.Qr,mc.x,dm,fm,1,em,ax.meth _ (),0,mc,r,v,u,q,d,1,hM,ae,af,hv,ad,ay,Z,λH1 v1 M1=>?_
  ·have G1:=AcV hG O v1 M1;erw[id G1,aa,ac,_,_,_,_,e3,f3,_];have hok:=AK (own:=mc.own) ad ae (by rw[af];show decide (("asks":Str)="asks")=v_;exact uh rfl) (AM Z)
   exists 5
   refine⟨0,U.x,aa,ac,1,e3,f3.meth _ (),U,_,mc,0,G1,1,.inr hok.two,λH2 v2 G2=>k H2 [λb ob h n1 n2=>v2.kept b ob (v1.kept b ob h (n2 mc r O).1 (n2 mc r O).2.1 (n2 mc r O).2.2) n1:v1.tk.trans v2.tk] G2⟩
nonrec def gfs (n:Str)(o t:o6):oq (Str×V):= [("name",.str n),("order",.ref o),("made_by",.non),("rule_asks",.ref t),("rule_run",.non),("end",.non)]
def EN (n:Str)(o t:o6):GFl (gfs n o t) (.str n) (.ref o) .non (.ref t) .non .non:=by
 exists 1,1,1,1,1,1,?_,(by show 6<=20;decide)
 intro m hm;simp![GMT,uH,uI,uS] at hm;rcases hm with rfl|rfl|rfl|rfl|rfl<;>rfl
nonrec def s0G:Gs:=⟨.non,[],U_,.non⟩
inductive IV (C CM CO:Addr):Sp
 |mk (x dx o:Addr)(n k:Str)(sv:V)(e:D)(_:vs= [.ref x,.str n,sv,.ref o])(_:H x=u_ (.ins C dx []))(_:Is H (.tup [.str k,e]) sv)(_:nm n=v_)(_:o≠x)(_:(∃dx fs,H o=u_ (.ins CO dx fs)/\fs.lookup ("runner":Str)=U_))(_:∀H' s',(∀b ob,H b=u_ ob->b≠x->H' b=u_ ob)->Tk H H'->md C CM H' ⟨x,o,n⟩ s'->(k="made"->s'={s0G with mb:=e})->(k≠"made"->LL H ⟨x,o,n⟩ e s0G s')->Q .non H')
def Sa {x:o6}{fs:oq (Str×V)}{P:Hp->Prop}(e:H x=u_ (.ins C dx fs))(h:∀H1,H1 x=u_ (.ins C dx fs')->(∀b ob,H b=u_ ob->b≠x->H1 b=u_ ob)->Tk H H1->P H1):P (upd H x (.ins C dx fs')):=h _ qg (λb ob h n=>by rwa[qh n]) (Tk.updI e)
def KW:#[C,10,a.Jx,a.zR,["self","name","source","order"],(IV a.qJ a.ql a.qo)]:=by
 have jG:=#[Bu,T,C];exists 9,T.mF,ki
 erw[h,x,dx,o,n,k,sv,d,rfl,hx,aa,hn,nox,[ac,ad,ho,ae],q];have hs:=uE;exists 3,%[#[Qe,pv 1],#[Qe,pv 3],#[Qe,qQ],#[Qe,#[qz,qd]],#[Qe,qQ],#[Qe,qQ]|#[qM,#[qr,QW,#[qF,qA,pv 2],qm],%[|#[Qe,#[qF,qA,pv 2]]],%[|#[qY,#[Qf,pv 0,T.qP,T.lO,jG,#v[#[qF,qA,pv 2]]]]]]]
 exists 0,0,x,_,dx,0,hx,T.qP,T.Yf,()
 refine Sa (P:=ni _ _ _ _) hx λH1 x1 k1 t1=>?_
 exists 5
 refine⟨0,0,x,_,dx,0,x1,T.qP,T.XT,by show 1<1000;decide,?_⟩
 refine Sa (P:=ni _ _ _ _) x1 λH2 x2 k2 t2=>?_
 exists 5
 refine⟨0,x,_,dx,0,x2,T.qP,T.yC,by show 2<1000;decide,?_⟩
 refine Sa (P:=ni _ _ _ _) x2 λH3 x3 k3 t3=>?_
 exists sml rfl,λt ht=>?_;have nxt:=(qi x3 ht).symm;have s4:=qf ht (.tup ([]:oq V))
 exists 5
 refine⟨0,x,_,dx,0,s4 _ _ x3,T.qP,T.yO,by show 3<1000;decide,?_⟩
 refine Sa (P:=ni _ _ _ _) (s4 _ _ x3) λH5 x5 k5 t5=>?_
 exists 5
 refine⟨0,x,_,dx,0,x5,T.qP,T.qT,by show 4<1000;decide,?_⟩
 refine Sa (P:=ni _ _ _ _) x5 λH6 x6 k6 t6=>?_
 exists 5
 refine⟨0,x,_,dx,0,x6,T.qP,T.QZ,by show 5<1000;decide,?_⟩
 refine Sa (P:=λH=>_) x6 λZ O k7 t7=>?_;have kp:∀b ob,H b=u_ ob->b≠x->Z b=u_ ob:=λb ob h nb=>k7 b ob (k6 b ob (k5 b ob (s4 b ob (k3 b ob (k2 b ob (k1 b ob h nb) nb) nb)) nb) nb) nb;have U:=(((((t1.trans t2).trans t3).trans s4.tk).trans t5).trans t6).trans t7;have O:Z x=u_ (.ins a.qJ dx (gfs n o t)):=O;have eT:Z t=u_ (.tup ([]:oq V)):=k7 _ _ (k6 _ _ (k5 _ _ qg nxt) nxt) nxt;have i0:Is Z (.tup []) (.ref t):=⟨t,[],1,eT,1⟩;have G0:md a.qJ a.ql Z ⟨x,o,n⟩ s0G:=⟨dx,_,_,_,_,_,O,EN n o t,1,i0,1,1⟩;have af:=aa.mono U;erw[af,p,ws,rfl,hp,w1,r1,rfl,[rfl,ag],w2,r2,rfl,h2,h3];cases(show r2= [] from h3)
 exists 0,p,_,_,0,1,SqT.of hp,1,1,0;by_cases ck:k="made"
 ·refine lN (uh (by rw[ck])) ⟨0,p,_,_,0,1,SqT.of hp,1,0,x,_,dx,0,O,T.qP,T.yC,(by show 6<1000;decide),?_⟩
  erw[Wo (C:=a.qJ) (CM:=a.ql) (g:=[x:o:n]) (s:={s0G with mb:=d}) O ((EN n o t).set_made_by (u:=w2)) h2 i0 rfl rfl,p1,p2]
  exact q _ _ (λb ob h nb=>p2.kept b ob (kp b ob h nb) nb) (U.trans p2.tk) p1 (λ_=>rfl) λz=>A8 ck z
 ·refine iR (ug (λz=>ck (V.str.inj z))) ?_
  exists 0,x,dx,0,O,(EN n o t).meth _ (),0,p,_,_,0,1,SqT.of hp,1,[x:o:n],s0G,w2,d,1,G0,1,hn,h2,⟨ac,ad,kp _ _ ho nox,ae⟩,λH8 s8 v8 G8 b8=>q H8 s8 (λb ob h nb=>v8.kept b ob (kp b ob h nb) nb) (U.trans v8.tk) G8 (λz=>A8 z ck) λ_=>⟨b8.mb,b8.ra,b8.lack,b8.rule,λrs h=>?_⟩
  erw[b8.go rs h,mc,c1,c2,c3,c4];have fr:∀b,Z b=U_->H b=none:=λb hb=>by
   cases hc:H b with
   |none=>rfl
   |some ob=>
    by_cases c:b=x
    ·rw[c,O] at hb;cases hb
    ·rw[kp b ob hc c] at hb;cases hb
  exact⟨mc,fr _ c1,fr _ c2,fr _ c3,c4⟩
nonrec def Yu:D->D
 | .non=> .tup [.str "lack"]
 | .tup [.str k,e]=>if k="leaf" then .tup [.str "value",e] else .non
 |_=> .non
nonrec def yn:D->D
 | .tup [.str k,e]=>if k="said" then .tup [.str "value",e] else .tup [.str k,e]
 |d=>d
inductive Np:Sp
 |mk (v:V)(d:D)(_:vs= [v])(_:Is H d v)(_:(d= .non∨∃k e,d= .tup [.str k,e]))(_:∀u H',ig H H'->Is H' (Yu d) u->Q u H')
inductive Kt:Sp
 |mk (v:V)(k:Str)(e:D)(_:vs= [v])(_:Is H (.tup [.str k,e]) v)(_:∀u H',ig H H'->Is H' (yn (.tup [.str k,e])) u->Q u H')
def Bv:#[T,1,a.ZQ,a.ZK,["end"],Kt]:=by
 exists 9,T.mf,nU
 erw[h,v,k,e,rfl,U,q];have hs:=uE;have O:=U;erw[U,p,ws,rfl,Z,w1,r1,rfl,[rfl,aa],w2,r2,rfl,h2,h3];cases(show r2= [] from h3)
 exists 3,%[|#[qq,#[Q2,#[qr,QW,#[qF,qA,pv 0],qm],#[qz,#v[qm,#[qF,qA,pv 0]]],pv 0]]]
 exists 0,p,_,_,0,1,SqT.of Z,1,1,0;by_cases c:k="said"
 ·refine lN (uh (by rw[c])) ⟨0,p,_,_,0,1,SqT.of Z,1,(sml rfl),λt ht=>?_⟩
  refine q _ _ (qf ht _) ?_;unfold yn
  try dsimp only
  rw[A6 c];exact Is.new ⟨_,0,Qb (),_,0,h2,1⟩ ht
 ·refine iR (ug (λz=>c (V.str.inj z))) [0:q _ H (ig.refl _) ?_];unfold yn
  try dsimp only
  rw[A4 c];exact O
def Ao:#[T,1,a.jR,a.jV,["source"],Np]:=by
 exists 9,T.iC,ze
 erw[h,v,d,rfl,U,hd,q];have hs:=uE;exists 3,%[#[qM,#[qr,yl,pv 0,qQ],%[|#[qq,#[qz,#v[qm]]]],qv]|#[qq,#[Q2,#[qr,QW,#[qF,qA,pv 0],qm],#[qz,#v[qm,#[qF,qA,pv 0]]],qQ]]]
 exists 0,1,0;rcases hd with rfl|⟨k,e,rfl⟩
 ·cases(show v= .non from U)
  refine lN (uh rfl) [(sml rfl):λt O=>?_];exact q _ _ (qf O _) (Is.new ⟨_,0,Qb (),1⟩ O)
 ·erw[U,p,ws,rfl,Z,w1,r1,rfl,[rfl,aa],w2,r2,rfl,h2,h3];cases(show r2= [] from h3)
  refine iR (ug (λz=>by cases z)) ?_
  exists 0,p,_,_,0,1,SqT.of Z,1,1,0;by_cases c:k="leaf"
  ·refine lN (uh (by rw[c])) ⟨0,p,_,_,0,1,SqT.of Z,1,(sml rfl),λt O=>?_⟩
   refine q _ _ (qf O _) ?_;unfold Yu
   try dsimp only
   rw[A6 c];exact Is.new ⟨_,0,Qb (),_,0,h2,1⟩ O
  ·refine iR (ug (λz=>c (V.str.inj z))) (q _ H (ig.refl _) ?_);unfold Yu
   try dsimp only
   rw[A4 c];exact(rfl:V.non=V.non)
end
structure Sy where
 G:Type
 fin:G->Bool
 want:G->ot Str
 own:G->G
 tk:G->ot D->G
 stuck:G->Str->G
 said:G->ot D
 g0:Str->ot G
 once:Str->ot D
 lft:G->Nat
 M:Nat
 ns:oq Str
structure Sy.Ok (Y:Sy):Prop where
 fs:∀g m,Y.fin (Y.stuck g m)=v_
 ss:∀g m,Y.said (Y.stuck g m)=U_
 sf:∀g v,Y.said g=u_ v->Y.fin g=v_
 lo:∀g,Y.fin g=V1->Y.want g=U_->Y.lft (Y.own g)<Y.lft g
 lt:∀g m a,Y.fin g=V1->Y.want g=u_ m->Y.lft (Y.tk g a)<Y.lft g
 lk:∀g m,Y.fin g=V1->Y.lft (Y.stuck g m)<Y.lft g
 l0:∀m g,Y.g0 m=u_ g->Y.lft g<=Y.M
 gn:∀m g,Y.g0 m=u_ g->m∈Y.ns
namespace Sy
variable {Y:Sy}
noncomputable abbrev Orc:=Str->ot (ot D)
nonrec def step (Y:Sy)(f:Orc)(g:Y.G):Y.G:=if Y.fin g=v_ then g else match Y.want g with
 |none=>Y.own g
 |some m=>match f m with
  |some a=>Y.tk g a
  |none=>Y.stuck g m
nonrec def it (Y:Sy)(f:Orc):Nat->Y.G->Y.G
 |0,g=>g
 |k+1,g=>it Y f k (step Y f g)
def Zw {f:Orc}{g:Y.G}(h:Y.fin g=v_):step Y f g=g:=by unfold step;rw[A6 h]
def wZ {f:Orc}{g:Y.G}(h:Y.fin g=v_):∀k,it Y f k g=g
 |0=>rfl
 |k+1=>by show it Y f k (step Y f g)=g;rw[Zw h];exact wZ h k
def Ww {f:Orc}:∀(k j:Nat) (g:Y.G),it Y f (k+j) g=it Y f j (it Y f k g)
 |0,j,g=>by rw[TF];rfl
 |k+1,j,g=>by
  rw[Nat.add_right_comm];show it Y f (k+j) (step Y f g)=_;rw[Ww k j]
  rfl
def Ez {f:Orc}(k:Nat)(g:Y.G):it Y f (k+1) g=step Y f (it Y f k g):=Ww k 1 g
def AX (h:Y.Ok){f:Orc}{g:Y.G}(O:Y.fin g=V1):Y.lft (step Y f g)<Y.lft g:=by
 unfold step;rw[O,A4 ub];cases U:Y.want g with
 |none=>exact h.lo g O U
 |some m=>
  show Y.lft (match f m with|some a=>Y.tk g a|none=>Y.stuck g m)<_
  cases f m with
  |some a=>exact h.lt g m a O U
  |none=>exact h.lk g m O
def it_end (h:Y.Ok){f:Orc}:∀(k:Nat) (g:Y.G),Y.lft g<=k->Y.fin (it Y f k g)=v_
 |0,g,hl=>by
  show Y.fin g=v_;cases O:Y.fin g with
  |true=>rfl
  |false=>have:=AX (f:=f) h O;omega
 |k+1,g,hl=>by
  show Y.fin (it Y f k (step Y f g))=v_;cases O:Y.fin g with
  |true=>rw[Zw O,wZ O];exact O
  |false=>exact it_end h k _ (by have:=AX (f:=f) h O;omega)
variable {j:Nat}
def it_one {f:Orc}{g:Y.G}{k:Nat}(O:Y.fin (it Y f k g)=v_)(U:Y.fin (it Y f j g)=v_):it Y f k g=it Y f j g:=by
 rcases Ti k j with h|h
 ·erw[GP h,d,rfl];rw[Ww,wZ O]
 ·erw[GP h,d,rfl];rw[Ww,wZ U]
def Az (h:Y.Ok){f f':Orc}(hm:∀m a,f m=u_ a->f' m=u_ a):∀(k:Nat) (g:Y.G),it Y f' k g=it Y f k g∨((∀j,it Y f j (it Y f k g)=it Y f k g)/\Y.said (it Y f k g)=U_)
 |0,g=> .inl rfl
 |k+1,g=>by
  show it Y f' k (step Y f' g)=it Y f k (step Y f g)∨_;by_cases c:step Y f' g=step Y f g
  ·rw[c];exact Az h hm k _
  ·right;have U:Y.fin g=false:=by
    cases U:Y.fin g with
    |false=>rfl
    |true=>exact A8 (by rw[Zw U,Zw U]) c
   have e:∃m,step Y f g=Y.stuck g m:=by
    unfold step at c⊢;rw[U,A4 ub] at c⊢;rw[A4 ub] at c;cases Z:Y.want g with
    |none=>rw[Z] at c;exact A8 rfl c
    |some m=>
     rw[Z] at c;simp only at c⊢;cases O:f m with
     |none=>exact[m:1]
     |some a=>rw[O,hm m a O] at c;exact A8 rfl c
   erw[e,m,e];have e2:it Y f (k+1) g=Y.stuck g m:=by
    show it Y f k (step Y f g)=_;rw[e];exact wZ (h.fs g m) k
   rw[e2];exact[wZ (h.fs g m):h.ss g m]
def Ay (h:Y.Ok){f f':Orc}(hm:∀m a,f m=u_ a->f' m=u_ a){k:Nat}{g:Y.G}{v:D}(O:Y.said (it Y f k g)=u_ v):it Y f' k g=it Y f k g:=by
 rcases Az h hm k g with e|⟨_,e⟩
 ·exact e
 ·rw[O] at e;cases e
nonrec def Fh (Y:Sy):Nat->Orc
 |0,m=>match Y.g0 m with
  |none=>u_ (Y.once m)
  |some _=>U_
 |h+1,m=>match Y.g0 m with
  |none=>u_ (Y.once m)
  |some g=>(Y.said (it Y (Fh Y h) Y.M g)).map u_
variable {m:Str}
def ZZ (h:Y.g0 m=U_):∀k,Fh Y k m=u_ (Y.once m)
 |0=>by simp![Fh,h]
 |k+1=>by simp![Fh,h]
def Fh_run {g:Y.G}(h:Y.g0 m=u_ g)(k:Nat):Fh Y (k+1) m=(Y.said (it Y (Fh Y k) Y.M g)).map some:=by simp![Fh,h]
def Kr {g:Y.G}(h:Y.g0 m=u_ g):Fh Y 0 m=none:=by simp![Fh,h]
def Iy (h:Y.Ok):∀(k:Nat) (m:Str) (a:ot D),Fh Y k m=u_ a->Fh Y (k+1) m=u_ a
 |0,m,a,e=>by
  cases O:Y.g0 m with
  |none=>rw[ZZ O] at e⊢;exact e
  |some g=>rw[Kr O] at e;cases e
 |k+1,m,a,e=>by
  cases O:Y.g0 m with
  |none=>rw[ZZ O] at e⊢;exact e
  |some g=>
   rw[Fh_run O] at e⊢;cases U:Y.said (it Y (Fh Y k) Y.M g) with
   |none=>rw[U] at e;cases e
   |some v=>
    rw[Ay h (Iy h k) U];exact e
def PZ (h:Y.Ok){k:Nat}(O:k<=j){a:ot D}(e:Fh Y k m=u_ a):Fh Y j m=u_ a:=by
 erw[GP O,d,rfl]
 induction d with
 |zero=>exact e
 |succ d U=>exact Iy h _ _ _ (U ())
open Classical in
nonrec def F (Y:Sy):Orc:=λm=>if h:∃a k,Fh Y k m=u_ a then u_ (choose h) else U_
def F_iff (h:Y.Ok){a:ot D}:F Y m=u_ a↔∃k,Fh Y k m=u_ a:=by
 unfold F;constructor
 ·intro e;by_cases c:∃a k,Fh Y k m=u_ a
  ·rw[dif_pos c] at e;have:=Rj c;rwa[uM e] at this
  ·rw[dif_neg c] at e;cases e
 ·rintro⟨k,e⟩;have c:∃a k,Fh Y k m=u_ a:=[a:k:e];rw[dif_pos c];erw[Rj c,j,e2];have e3:=PZ h (Nat.le_max_left k j) e;have O:=PZ h (Nat.le_max_right k j) e2;rw[e3] at O;exact O.symm
def Sc (h:Y.Ok){k:Nat}{a:ot D}(e:Fh Y k m=u_ a):F Y m=u_ a:=(F_iff h).mpr [k:e]
def F_once (h:Y.Ok)(O:Y.g0 m=U_):F Y m=u_ (Y.once m):=Sc h (ZZ O 0)
def De (h:Y.Ok)(g:Y.G):∃k,∀j,k<=j->step Y (Fh Y j) g=step Y (F Y) g:=by
 unfold step;by_cases U:Y.fin g=v_
 ·exact⟨(0),λj _=>by rw[A6 U,A6 U]⟩
 ·cases hw:Y.want g with
  |none=>exact[(0):λj _=>rfl]
  |some m=>
   cases O:F Y m with
   |some a=>
    erw[(F_iff h).mp O,k,e];exact⟨k,λj Z=>by simp![PZ h Z e,O]⟩
   |none=>
    exists (0),λj _=>?_;have:Fh Y j m=none:=by
     cases e:Fh Y j m with
     |none=>rfl
     |some a=>rw[Sc h e] at O;cases O
    simp![this,O]
def EA (h:Y.Ok):∀(n:Nat) (g:Y.G),∃k,∀j,k<=j->it Y (Fh Y j) n g=it Y (F Y) n g
 |0,g=>[(0):λ_ _=>rfl]
 |n+1,g=>by
  erw[De h g,k1,h1];erw[EA h n (step Y (F Y) g),k2,h2];exists max k1 k2,λj O=>?_;show it Y (Fh Y j) n (step Y (Fh Y j) g)=it Y (F Y) n (step Y (F Y) g);rw[h1 j (),h2 j ()]
def F_run (h:Y.Ok){g:Y.G}(U:Y.g0 m=u_ g):F Y m=(Y.said (it Y (F Y) Y.M g)).map some:=by
 cases Z:Y.said (it Y (F Y) Y.M g) with
 |some v=>
  erw[EA h Y.M g,k,e];refine Sc h (k:=k+1) ?_;rw[Fh_run U,e k (uA _),Z]
  rfl
 |none=>
  show F Y m=U_;cases e:F Y m with
  |none=>rfl
  |some a=>
   erw[(F_iff h).mp e,k,e];cases k with
   |zero=>rw[Kr U] at e;cases e
   |succ k=>
    rw[Fh_run U] at e;cases O:Y.said (it Y (Fh Y k) Y.M g) with
    |none=>rw[O] at e;cases e
    |some v=>
     rw[<-Ay h (λm a q=>Sc h q) O,Z] at O;cases O
nonrec def Wt (Y:Sy)(n m:Str):Prop:=∃g k,Y.g0 n=u_ g/\Y.fin (it Y (F Y) k g)=V1/\Y.want (it Y (F Y) k g)=u_ m
def CW (h:Y.Ok){n:Str}(w:Wt Y n m){k:Nat}{a:ot D}(e:Fh Y k n=u_ a):∃j b,j<k/\Fh Y j m=u_ b:=by
 erw[w,g,i,hg,hf,hw];cases k with
 |zero=>rw[Kr hg] at e;cases e
 |succ k=>
  exists k;rw[Fh_run hg] at e;cases U:Y.said (it Y (Fh Y k) Y.M g) with
  |none=>rw[U] at e;cases e
  |some v=>
   have O:=h.sf _ _ U;have eM:=Ay h (f':=F Y) (λm a q=>Sc h q) U;rcases Az h (f:=Fh Y k) (f':=F Y) (λm a q=>Sc h q) i g with ei|⟨ei,es⟩
   ·rw[ei] at hf hw;cases hm:Fh Y k m with
    |some b=>exact[b:UX k:1]
    |none=>
     have e1:it Y (Fh Y k) (i+1) g=Y.stuck (it Y (Fh Y k) i g) m:=by
      rw[Ez];unfold step;rw[hf,A4 ub,hw];simp![hm]
     have e2:Y.fin (it Y (Fh Y k) (i+1) g)=true:=by rw[e1];exact h.fs _ _
     rw[<-it_one e2 O,e1,h.ss] at U;cases U
   ·have Z:it Y (Fh Y k) (i+Y.M) g=it Y (Fh Y k) i g:=by rw[Ww];exact ei _
    have e3:it Y (Fh Y k) (Y.M+i) g=it Y (Fh Y k) Y.M g:=by rw[Ww];exact wZ O i
    rw[<-e3,Nat.add_comm,Z,es] at U;cases U
inductive Wts (Y:Sy):Str->Str->Prop
 |one {n m:Str}:Wt Y n m->Wts Y n m
 |more {n m l:Str}:Wts Y n m->Wt Y m l->Wts Y n l
def ID (h:Y.Ok){n:Str}(w:Wts Y n m):∀{k:Nat}{a:ot D},Fh Y k n=u_ a->∃j b,j<k/\Fh Y j m=u_ b:=by
 induction w with
 |one w=>exact λe=>CW h w e
 |more _ w O=>
  intro k a e;erw[O e,j,b,Z,U];erw[CW h w U,i,c,hi,e2];exact⟨i,c,(),e2⟩
def nY (h:Y.Ok){n:Str}(w:Wts Y n n):F Y n=none:=by
 have O:∀k a,Fh Y k n≠u_ a:=by
  intro k
  induction k using Nat.strongRecOn with
  |_ k U=>
   intro a e;erw[ID h w e,j,b,Z,e1];exact U j Z b e1
 cases e:F Y n with
 |none=>rfl
 |some a=>
  erw[(F_iff h).mp e,k,e];exact A8 e (O k a)
structure Ss (Y:Sy) where
 stk:oq (Str×Y.G)
 don:oq (Str×Y.G)
nonrec def YX (l:oq (Str×Y.G))(m:Str):ot Y.G:=(l.find? λp=>decide (p.1=m)).map (·.2)
nonrec def yet (S:Ss Y)(m:Str):ot (ot (ot D)):=if m∈S.stk.map (·.1) then u_ U_ else match Y.g0 m with
 |none=>u_ (u_ (Y.once m))
 |some _=>(YX S.don m).map λg=>(Y.said g).map u_
nonrec def nxt (S:Ss Y):Ss Y:=match S.stk with
 | []=>S
 |(n,g)::r=>if Y.fin g=v_ then[r:S.don++ [(n,g)]] else match Y.want g with
  |none=>[(n,Y.own g)::r:S.don]
  |some m=>match yet S m with
   |some (u_ a)=>[(n,Y.tk g a)::r:S.don]
   |some U_=>[(n,Y.stuck g m)::r:S.don]
   |none=>match Y.g0 m with
    |some g'=>[(m,g')::(n,g)::r:S.don]
    |none=>S
nonrec def nx (S:Ss Y):Nat->Ss Y
 |0=>S
 |k+1=>nxt (nx S k)
nonrec def rest (S:Ss Y):oq Str:=Y.ns.filter λm=>decide (m∉S.stk.map (·.1))&&decide (m∉S.don.map (·.1))
nonrec def lfts:oq (Str×Y.G)->Nat
 | []=>0
 |(_,g)::r=>Y.lft g+1+lfts r
nonrec def mu (S:Ss Y):Nat:=lfts S.stk+(Y.M+2)*↑(rest S)
variable {S:Ss Y}
def XB (h:yet S m=U_):m∉S.stk.map (·.1)/\(∃g,Y.g0 m=u_ g)/\m∉S.don.map (·.1):=by
 unfold yet at h;by_cases c:m∈S.stk.map (·.1)
 ·rw[A6 c] at h;cases h
 ·rw[A4 c] at h;cases O:Y.g0 m with
  |none=>rw[O] at h;cases h
  |some g=>
   rw[O] at h;simp![tE] at h;exists c,[g:1],λhm=>?_;erw[Ae.mp hm,p,U,rfl];have h3:(S.don.find? λq=>decide (q.1=p.1))=none:=by simpa [YX] using h
   rw[Uk] at h3;exact h3 p U (by simp)
def kH {p q:Str->Bool}{l:oq Str}(Z:m∈l)(hp:p m=v_)(hq:q m=V1)(O:∀x,q x=v_->p x=v_):↑(l.filter q)<↑(l.filter p):=by
 induction l with
 |nil=>cases Z
 |cons x r U=>
  have le:↑(r.filter q)<=↑(r.filter p):=by
   clear U Z
   induction r with
   |nil=>exact uA _
   |cons y r U=>
    rw[vS,vS];cases h1:q y with
    |true=>rw[O y h1,A6 rfl,A6 rfl];simp![uB];omega
    |false=>
     rw[A4 ub];split
     ·simp![uB];omega
     ·exact U
  rw[vS,vS];rcases Aa.mp Z with rfl|hm
  ·rw[hp,hq,A6 rfl,A4 ub,uB];omega
  ·have:=U hm;cases h1:q x with
   |true=>rw[O x h1,A6 rfl,A6 rfl];simp![uB];omega
   |false=>
    rw[A4 ub];split
    ·simp![uB];omega
    ·exact this
def nxt_mu (h:Y.Ok)(hs:S.stk≠ []):mu (nxt S)<mu S:=by
 erw[S,stk,don];cases stk with
 |nil=>exact A8 rfl hs
 |cons p r=>
  erw[p,n,g];have same:∀g',Y.lft g'<Y.lft g->mu (⟨(n,g')::r,don⟩:Ss Y)<mu ⟨(n,g)::r,don⟩:=by
   intro g' hl;show Y.lft g'+1+lfts r+(Y.M+2)*_<Y.lft g+1+lfts r+(Y.M+2)*_;have e:rest (⟨(n,g')::r,don⟩:Ss Y)=rest ⟨(n,g)::r,don⟩:=rfl;rw[e];omega
  unfold nxt;simp only;cases O:Y.fin g with
  |true=>
   rw[A6 rfl];show lfts r+(Y.M+2)*_<Y.lft g+1+lfts r+(Y.M+2)*_;have e:rest (⟨r,don++ [(n,g)]⟩:Ss Y)=rest ⟨(n,g)::r,don⟩:=by
    unfold rest
    congr 1
    funext x
    simp![um,uD,Ud,Ac,uH,uI,uS,<-Bool.decide_and];rw[vd];constructor
    ·rintro⟨a,b⟩;exact[λz=>z.elim (λz=>b (.inr z)) a:λz=>b (.inl z)]
    ·rintro⟨a,b⟩;exact[λz=>a (.inr z):λz=>z.elim b λz=>a (.inl z)]
   rw[e];omega
  |false=>
   rw[A4 ub];cases hw:Y.want g with
   |none=>exact same _ (h.lo g O hw)
   |some m=>
    simp only;cases hy:yet ([(n,g)::r:don]:Ss Y) m with
    |some o=>
     cases o with
     |some a=>exact same _ (h.lt g m a O hw)
     |none=>exact same _ (h.lk g m O)
    |none=>
     simp only;erw[XB hy,h1,[g',U],h2];rw[U];show Y.lft g'+1+(Y.lft g+1+lfts r)+(Y.M+2)*↑(rest ([(m,g')::(n,g)::r:don]:Ss Y))<Y.lft g+1+lfts r+(Y.M+2)*↑(rest ([(n,g)::r:don]:Ss Y));have e:↑(rest (⟨(m,g')::(n,g)::r,don⟩:Ss Y))<↑(rest (⟨(n,g)::r,don⟩:Ss Y)):=by
      refine kH (m:=m) (h.gn m g' U) ?_ ?_ ?_
      ·simp![uG,vi];exact[h1:h2]
      ·simp
      ·intro x Z;simp![uG,vi] at Z⊢;exact[λz=>Z.1 (uj _ z):Z.2]
     have l0:=h.l0 m g' U;have e2:=Nat.mul_le_mul_left (Y.M+2) (Nat.succ_le_of_lt e);rw[Nat.mul_succ] at e2;omega
nonrec def Chn (Y:Sy):oq (Str×Y.G)->Prop
 | []=>True
 |(n,g)::r=>(∃s k,Y.g0 n=u_ s/\g=it Y (F Y) k s)/\Chn Y r/\∀p r',r=p::r'->Y.fin p.2=V1/\Y.want p.2=u_ n
structure SOk (n0:Str)(S:Ss Y):Prop where
 chn:Chn Y S.stk
 nd:(S.stk.map (·.1)++S.don.map (·.1)).Nodup
 don:∀p∈S.don,∃s,Y.g0 p.1=u_ s/\p.2=it Y (F Y) Y.M s
 bot:(S.stk.map (·.1)).getLast? =u_ n0∨S.stk= []/\(S.don.map (·.1)).getLast? =u_ n0
def Pv {n:Str}{g:Y.G}:∀{r:oq (Str×Y.G)}{m:Str},Chn Y ((n,g)::r)->m∈r.map (·.1)->Wts Y m n:=by
 intro r
 induction r generalizing n g with
 |nil=>intro m _ h;cases h
 |cons p r ih=>
  intro m hc hm;erw[p,O,g'];erw[hc,_,U,c3];erw[c3 (O,g') r rfl,f1,w1];erw[U.1,s,k,hs,Z];have w:Wt Y O n:=⟨s,k,hs,by rwa[<-Z],by rwa[<-Z]⟩
  rcases Aa.mp hm with rfl|hm
  ·exact .one w
  ·exact .more (ih U hm) w
def WT {l:oq (Str×Y.G)}{g:Y.G}(h:YX l m=u_ g):(m,g)∈l:=by
 unfold YX at h;cases e:l.find? λp=>decide (p.1=m) with
 |none=>rw[e] at h;cases h
 |some p=>
  rw[e] at h;cases uM h;have:=UN e;have hm:p.1=m:=uq this;rw[<-hm];exact vN e
def AaS (h:Y.Ok){n0:Str}(hs:SOk n0 S):SOk n0 (nxt S):=by
 erw[S,stk,don];cases stk with
 |nil=>exact hs
 |cons p r=>
  erw[p,n,g];erw[hs,chn,nd,O,bot];erw[chn,[s,k,U,hk],c2,c3];have on:∀g',Y.fin g=V1->step Y (F Y) g=g'->SOk n0 (⟨(n,g')::r,don⟩:Ss Y):=by
   intro g' hf e;exists [⟨s,k+1,U,?_⟩:c2:c3],nd,O,.inl ?_
   ·rw[Ez,<-hk,e]
   ·rcases bot with b|⟨b,_⟩
    ·exact b
    ·cases b
  unfold nxt;simp only;cases hf:Y.fin g with
  |true=>
   rw[A6 rfl];exists c2,?_,λq hq=>?_,?_
   ·show(r.map (·.1)++(don++ [(n,g)]).map (·.1)).Nodup;have ac:(n::(r.map (·.1)++don.map (·.1))).Nodup:=nd;rw[um,<-vB];show((r.map (·.1)++don.map (·.1))++ [n]).Nodup;exact(tW (l₁:= [n]) (l₂:=r.map (·.1)++don.map (·.1))).nodup_iff.mp ac
   ·rcases Ac.mp hq with hq|hq
    ·exact O q hq
    ·cases Ab.mp hq;exists s,U;show g=_;rw[hk];refine it_one (by rwa[<-hk]) (it_end h _ _ (h.l0 n s U))
   ·rcases bot with b|⟨b,_⟩
    ·cases r with
     |nil=>
      right;exists 1;have hn:n=n0:=by simpa using b
      show((don++ [(n,g)]).map (·.1)).getLast? =u_ n0;rw[um,hn];simp
     |cons q r=>
      left
      simpa [UQ] using b
    ·cases b
  |false=>
   rw[A4 ub];have aa:step Y (F Y) g=match Y.want g with
     |none=>Y.own g
     |some m=>match F Y m with
      |some a=>Y.tk g a
      |none=>Y.stuck g m:=by
    unfold step;rw[hf,A4 ub]
   cases hw:Y.want g with
   |none=>exact on _ hf (by rw[aa,hw])
   |some m=>
    rw[hw] at aa;simp only at aa⊢;cases Z:yet ([(n,g)::r:don]:Ss Y) m with
    |some o=>
     have hF:F Y m=o:=by
      unfold yet at Z;by_cases c:m∈((n,g)::r).map (·.1)
      ·rw[A6 c] at Z;cases Z;have w:Wt Y n m:=⟨s,k,U,by rwa[<-hk],by rwa[<-hk]⟩
       rcases Aa.mp c with rfl|hm
       ·exact nY h (.one w)
       ·exact nY h (.more (Pv (g:=g) [⟨s,k,U,hk⟩:c2:c3] hm) w)
      ·rw[A4 c] at Z;cases hg:Y.g0 m with
       |none=>
        rw[hg] at Z;cases Z;exact F_once h hg
       |some gm=>
        rw[hg] at Z;simp only at Z;cases hd:YX don m with
        |none=>rw[hd] at Z;cases Z
        |some gd=>
         rw[hd] at Z;cases Z;erw[O _ (WT hd),s',e1,e2];rw[hg] at e1;cases e1;have e3:gd=it Y (F Y) Y.M gm:=e2;rw[F_run h hg,e3]
     cases o with
     |some a=>exact on _ hf (by rw[aa,hF])
     |none=>exact on _ hf (by rw[aa,hF])
    |none=>
     simp only;erw[XB Z,h1,[g',hg],h2];rw[hg];exists [⟨g',(0),hg,1⟩:[⟨s,k,U,hk⟩:c2:c3]:λq r' e=>?_],?_,O,.inl ?_
     ·cases e;exact[hf:hw]
     ·show(m::(((n,g)::r).map (·.1)++don.map (·.1))).Nodup;rw[U0];exists λz=>?_,nd;rcases Ac.mp z with z|z
      ·exact h1 z
      ·exact h2 z
     ·rcases bot with b|⟨b,_⟩
      ·show(m::n::r.map (·.1)).getLast? =u_ n0;rwa[UQ]
      ·cases b
def nx_ok (h:Y.Ok){n0:Str}{S:Ss Y}(O:SOk n0 S):∀k,SOk n0 (nx S k)
 |0=>O
 |k+1=>AaS h (nx_ok h O k)
def Ar {S:Ss Y}{k:Nat}(h:(nx S k).stk= []):∀j,nx S (k+j)=nx S k
 |0=>rfl
 |j+1=>by
  show nxt (nx S (k+j))=_;rw[Ar h j];unfold nxt;rw[h]
def nx_one {k:Nat}(O:(nx S k).stk= [])(U:(nx S j).stk= []):nx S k=nx S j:=by
 rcases Ti k j with h|h
 ·erw[GP h,d,rfl];exact(Ar O d).symm
 ·erw[GP h,d,rfl];exact Ar U d
nonrec def S0 (Y:Sy)(n:Str):Ss Y:=match Y.g0 n with
 |none=>[[]:[]]
 |some g=>[[(n,g)]:[]]
def S0_ok {n:Str}{g:Y.G}(O:Y.g0 n=u_ g):SOk n (S0 Y n):=by
 unfold S0;rw[O];exact⟨⟨⟨g,(0),O,1⟩,trivial,λ_ _ e=>by cases e⟩,by simp,λ_ h=>(by cases h),.inl rfl⟩
end Sy
end K46
namespace K46
open PySem L2 PyProof.Rows
nonrec def ThS (d:D):Prop:=(∃z,d=flt z)∨(∃e,d= .tup [.str "said",e]/\isT e=v_)∨∃(u z:Str),d= .tup [.str "asks",.tup [.str u,.str z]]/\isT (.str z)=v_/\(u="names"∨(u="thing"∨u="has")/\nm z=v_)
def EF {d:D}(h:my d=v_):∃z,d= .str z/\nm z=true:=by
 cases d with
 |str z=>exact[z:1:h]
 |_=>cases h
variable {own:Str}{n:Nat}{r:Rw}{e:D}
def NL {B:Str->D}{p:Int}(hr:j8 n 300 r)(h:Tr B)(O:me own r B p= .stop e):ThS e:=by
 unfold me at O;erw[id hr,ks,hk,hp];erw[r,U,ps];by_cases c1:U∈MKR
 ·rw[A6 c1] at O;simp only at O;generalize made U B own ps=dm at O;have aa:(if isT dm=v_ then Out.go (l9 B (b0 ps) dm) (p+1) else .stop (flt "big"))= .stop e->ThS e:=by
   intro hq;by_cases c:isT dm=v_
   ·rw[A6 c] at hq;cases hq
   ·rw[A4 c] at hq;cases hq;exact .inl ⟨0⟩
  cases dm with
  |non=>cases O;exact .inl ⟨0⟩
  |_=>exact aa O
 rw[A4 c1] at O;by_cases c2:U∈ASK
 ·rw[A6 c2] at O;cases O;erw[ZO _ hk c2,_,_,ek];simp only at ek;subst ek;erw[wb hp,z0,z1,rfl,h0,h1];have hT:=h z1 h1;show ThS (nu U (B z1));unfold nu;by_cases d1:U="names"
  ·rw[A6 d1];by_cases Z:isStr (B z1)=v_
   ·rw[A6 Z];obtain⟨z,ez⟩:∃z,B z1= .str z:=by
     cases hb:B z1 with
     |str z=>exact[z:1]
     |_=>rw[hb] at Z;cases Z
    rw[ez] at hT⊢;exact .inr (.inr ⟨_,z,1,hT,.inl rfl⟩)
   ·rw[A4 Z];exact .inl ⟨0⟩
  ·rw[A4 d1];by_cases Z:my (B z1)=v_
   ·rw[A6 Z];erw[EF Z,z,ez,hz];rw[ez] at hT⊢;refine .inr (.inr ⟨_,z,1,hT,.inr [?_:hz]⟩);split
    ·exact .inl rfl
    ·exact .inr rfl
   ·rw[A4 Z];exact .inl ⟨0⟩
 rw[A4 c2] at O;by_cases c3:U="say"
 ·rw[A6 c3] at O;cases O;subst c3;have ek:=AC _ hk rfl;simp only at ek;subst ek;erw[Acq hp,z0,rfl,h0];exact .inr (.inl [0:h z0 h0])
 rw[A4 c3] at O;by_cases c4:U="fault"
 ·rw[A6 c4] at O;cases O;exact .inl ⟨0⟩
 rw[A4 c4] at O;by_cases c5:Mu U B ps=v_
 ·rw[A6 c5] at O;cases O
 ·rw[A4 c5] at O;cases O
def wr {rs:oq Rw}{own:Str}(U:QL rs):∀(f:Nat) (B:Str->D) (p:Int) (n:Nat) (gs:oq D),Tr B->1<=p->p<=↑rs+1->ThS (mn rs own gs f B p n).th
 |0,B,p,n,gs,hT,h1,h2=>by
  show ThS (if p>↑rs then flt "silent" else flt "long")
  split<;>exact .inl ⟨0⟩
 |f+1,B,p,n,gs,hT,h1,h2=>by
  unfold mn;by_cases c:p>↑rs
  ·rw[A6 c];exact .inl ⟨0⟩
  ·rw[A4 c];have O:=U.ok _ (kr h1 ())
   have hok:=Ai (own:=own) O hT h1 ()
   cases Z:me own (Yp rs p) B p with
   |go B' p'=>
    rw[Z] at hok;exact wr U f B' p' (n+1) gs hok.1 hok.2.1 hok.2.2
   |stop e=>exact NL O hT Z
variable {rs:oq Rw}
def PK (O:QL rs){r:Rn}{a:D}(h:CU rs r)(U:Qx r.th=v_)(ha:zg a):ThS (l8 rs own r a).th:=by
 erw[h.ask U,k1,_];unfold l8;cases hn:yt a with
 |true=>rw[A6 rfl];exact .inl ⟨0⟩
 |false=>
  rw[A4 ub];have Z:isT a=true:=by
   rcases ha with rfl|ha
   ·cases hn
   ·exact ha
  exact wr O _ _ _ _ _ (kl h.tr Z) (by have:=h.p1;omega) ()
def L6 {rs:oq Rw}{own:Str}:∀(f:Nat) (B:Str->D) (p:Int) (n:Nat) (gs:oq D),Qx (mn rs own gs f B p n).th=v_->1<=f/\n<=(mn rs own gs f B p n).n
 |0,B,p,n,gs,h=>by
  have h:Qx (if p>↑rs then flt "silent" else flt "long")=true:=h
  split at h<;>exact A8 h ()
 |f+1,B,p,n,gs,h=>by
  exists ()
  unfold mn at h⊢;by_cases c:p>↑rs
  ·rw[A6 c] at h;exact A8 h (show¬Qx (flt "silent")=v_ by decide+kernel)
  ·rw[A4 c] at h⊢;cases U:me own (Yp rs p) B p with
   |go O p'=>
    rw[U] at h;have:=(L6 f O p' (n+1) gs h).2;show n<=(mn rs own gs f O p' (n+1)).n;omega
   |stop e=>
    show n<=(if Qx e=v_ then n else n+1)
    split<;>omega
def AbC {r:Rn}{a:D}(h:Qx (l8 rs own r a).th=v_):r.n+1<300/\r.n+1<=(l8 rs own r a).n:=by
 unfold l8 at h⊢;cases hn:yt a with
 |true=>rw[hn,A6 rfl] at h;exact A8 h (show¬Qx (flt "lack")=v_ by decide+kernel)
 |false=>
  rw[hn,A4 ub] at h;rw[A4 ub];have:=L6 _ _ _ _ _ h;exact[():this.2]
structure Gp where
 n:Str
 mb:D
 ra:oq D
 run:ot (oq Rw×Rn)
 en:ot D
nonrec def mY (r:Rn):ot D:=if Qx r.th=v_ then U_ else u_ r.th
nonrec def ml (g:Gp)(d:D):Gp:=if yt d=v_ then{g with en:=u_ (flt "lack")} else match QK d with
 |none=>{g with en:=u_ (flt "rule")}
 |some rs=>{g with run:=u_ (rs,R0 rs g.n),en:=mY (R0 rs g.n)}
nonrec def QX (g:Gp)(d:D):Gp:=match g.run with
 |none=>ml {g with ra:= [.tup [.tup [.str "rule",g.mb],d]]} d
 |some (rs,r)=>{g with run:=u_ (rs,l8 rs g.n r d),en:=mY (l8 rs g.n r d)}
nonrec def jO (g:Gp):D:=match g.run with
 |none=> .tup [.str "rule",g.mb]
 |some (_,r)=>X4 r.th
nonrec def XZ (qs:oq (Str×D))(k z:Str):D:=if k="has" then .str (if z∈qs.map (·.1) then "yes" else "no") else Cl (Be [] ((qs.map (·.1)).filter λy=>gQ y z))
nonrec def nw (k:Str):Bool:=decide (k="has")||decide (k="names")
nonrec def y6 (g:Gp):ot Str:=match jO g with
 | .tup [.str k,.str z]=>if nw k=v_ then U_ else u_ z
 |_=>U_
nonrec def sT (qs:oq (Str×D))(g:Gp):Gp:=match jO g with
 | .tup [.str k,.str z]=>QX g (XZ qs k z)
 |_=>{g with en:=u_ (flt "name")}
nonrec def xF:D->ot D
 | .tup [.str k,v]=>if k="said" then u_ v else U_
 |_=>U_
nonrec def Zu (g:Gp):ot D:=g.en.bind xF
nonrec def Dc (g:Gp)(m:Str):Gp:={g with en:=u_ (.tup [.str "stuck",.str m])}
nonrec def At (g:Gp):Nat:=match g.en with
 |some _=>0
 |none=>match g.run with
  |none=>302
  |some (_,r)=>1+(300-r.n)
nonrec def g0D (m:Str):D->ot Gp
 | .tup [.str k,e]=>if k="leaf" then U_ else if k="made" then u_ ⟨m,e,[],U_,U_⟩ else u_ (ml ⟨m,.non,[],U_,U_⟩ e)
 |_=>U_
nonrec def oF:D->ot D
 | .tup [.str _,e]=>u_ e
 |_=>U_
nonrec def SyP (qs:oq (Str×D)):Sy:=⟨Gp,λg=>g.en.isSome,y6,sT qs,λg a=>QX g (a.getD .non),Dc,Zu,λm=>g0D m (qB qs m),λm=>oF (qB qs m),At,(302),qs.map (·.1)⟩
variable {g:Gp}
def Es (h:g.run=U_)(d:D):g.en=U_->At (ml g d)<302:=by
 intro O;unfold ml;split
 ·show(0:Nat)<302;omega
 ·cases U:QK d with
  |none=>show(0:Nat)<302;omega
  |some rs=>
   show(match mY (R0 rs g.n) with|some _=>0|none=>1+(300-(R0 rs g.n).n))<302
   cases mY (R0 rs g.n) with
   |some d=>show(0:Nat)<302;omega
   |none=>show(1+(300-(R0 rs g.n).n):Nat)<302;omega
def BC (O:g.en=U_)(d:D):At (QX g d)<At g:=by
 unfold QX;cases U:g.run with
 |none=>
  have e:At g=302:=by unfold At;rw[O,U]
  rw[e];exact Es (g:=⟨g.n,g.mb,[.tup [.tup [.str "rule",g.mb],d]],U_,g.en⟩) rfl d O
 |some p=>
  erw[p,rs,r];have e:At g=1+(300-r.n):=by unfold At;rw[O,U]
  rw[e];show(match mY (l8 rs g.n r d) with|some _=>0|none=>1+(300-(l8 rs g.n r d).n))<_
  unfold mY;by_cases c:Qx (l8 rs g.n r d).th=v_
  ·rw[A6 c];have:=AbC c;show 1+(300-(l8 rs g.n r d).n)<1+(300-r.n);omega
  ·rw[A4 c];show 0<1+(300-r.n);omega
variable {qs:oq (Str×D)}{z:Str}
def Y7 (h:z∉qs.map (·.1)):qB qs z= .non:=by
 unfold qB;have:(qs.find? λp=>decide (p.1=z))=none:=by
  rw[Uk];intro p O e;exact h (Ae.mpr [p:O:uq e])
 rw[this]
 rfl
def ya (qs:oq (Str×D)):(SyP qs).Ok where
 fs:=λ_ _=>rfl
 ss:=λg m=>by
  show xF (.tup [.str "stuck",.str m])=U_;unfold xF;exact A4 ()
 sf:=λg v h=>by
  have h:Zu g=u_ v:=h;unfold Zu at h;show g.en.isSome=v_;cases O:g.en with
  |none=>rw[O] at h;cases h
  |some d=>rfl
 lo:=λg U Z=>by
  have O:g.en=none:=by
   cases O:g.en with
   |none=>rfl
   |some d=>have U:g.en.isSome=false:=U;rw[O] at U;cases U
  show At (sT qs g)<At g;unfold sT;split
  ·exact BC O _
  ·have:0<At g:=by
    unfold At;rw[O];simp only;split<;>omega
   exact this
 lt:=λg m a U Z=>by
  have O:g.en=none:=by
   cases O:g.en with
   |none=>rfl
   |some d=>have U:g.en.isSome=false:=U;rw[O] at U;cases U
  exact BC O _
 lk:=λg m U=>by
  have O:g.en=none:=by
   cases O:g.en with
   |none=>rfl
   |some d=>have U:g.en.isSome=false:=U;rw[O] at U;cases U
  show 0<At g;unfold At;rw[O];simp only;split<;>omega
 l0:=λm g h=>by
  have h:g0D m (qB qs m)=u_ g:=h;show At g<=302;unfold g0D at h;split at h
  ·split at h
   ·cases h
   ·split at h
    ·cases h;exact uA _
    ·cases h;exact UW (Es rfl _ rfl)
  ·cases h
 gn:=λm g h=>by
  have h:g0D m (qB qs m)=u_ g:=h;show m∈qs.map (·.1);by_cases c:m∈qs.map (·.1)
  ·exact c
  ·rw[Y7 c] at h;cases h
nonrec def EnS (d:D):Prop:=(∃z,d=flt z)∨(∃e,d= .tup [.str "said",e]/\isT e=v_)∨∃z,d= .tup [.str "stuck",.str z]
structure GI (g:Gp):Prop where
 n:nm g.n=v_
 run:∀rs r,g.run=u_ (rs,r)->QL rs/\CU rs r/\ThS r.th/\(g.en=U_->Qx r.th=v_)
 no:g.run=U_->g.en=U_->∃z,g.mb= .str z/\nm z=v_
 en:∀d,g.en=u_ d->EnS d
 ra:nL g.ra=v_/\dpL g.ra<=30/\↑g.ra<=1
def Abn {r:Rn}(h:ThS r.th){d:D}(e:mY r=u_ d):EnS d:=by
 unfold mY at e;by_cases c:Qx r.th=v_
 ·rw[A6 c] at e;cases e
 ·rw[A4 c] at e;cases e;rcases h with h|h|⟨u,z,h,_⟩
  ·exact .inl h
  ·exact .inr (.inl h)
  ·rw[h] at c;exact A8 (show decide (("asks":Str)="asks")=v_ from uh rfl) c
def E8 {r:Rn}(e:mY r=U_):Qx r.th=true:=by
 unfold mY at e;by_cases c:Qx r.th=v_
 ·exact c
 ·rw[A4 c] at e;cases e
def AbH {n:Str}(h:QL rs):ThS (R0 rs n).th:=wr h 300 B0 1 0 [] P7 () (by have:=h.n0;omega)
def MD (d:D)(h1:nm g.n=v_)(h2:g.run=U_)(h3:nL g.ra=v_/\dpL g.ra<=30/\↑g.ra<=1):GI (ml g d):=by
 unfold ml;split
 ·exact⟨h1,λrs r e=>(by rw[show g.run=u_ (rs,r) from e] at h2;cases h2),(λ_ e=>by cases e),λd e=>by cases e;exact .inl ⟨0⟩,h3⟩
 ·cases U:QK d with
  |none=>exact⟨h1,λrs r e=>(by rw[show g.run=u_ (rs,r) from e] at h2;cases h2),(λ_ e=>by cases e),λd e=>by cases e;exact .inl ⟨0⟩,h3⟩
  |some rs=>
   have O:=(nZ U).2;exact⟨h1,λZ r e=>by cases e;exact⟨O,LI O,AbH O,λe=>E8 e⟩,λe _=>(by cases e),λd e=>Abn (AbH O) e,h3⟩
def AB (h:GI g)(U:g.en=U_){d:D}(ha:zg d):GI (QX g d):=by
 unfold QX;cases Z:g.run with
 |none=>
  erw[h.no Z U,z,hz,_];refine MD d h.n rfl ?_;have O:nD d=v_/\dp d<=12:=by
   rcases ha with rfl|ha
   ·exact⟨1,by simp[dp]⟩
   ·exact[wR (Ya ha):xb ha]
  rw[hz];exists ?_,?_,uA _
  ·simp![nL,nD,O.1,Uu]
  ·simp![dpL,dp];have:=O.2;omega
 |some p=>
  erw[p,rs,r];erw[h.run rs r Z,k1,k2,k3,k4];have hs:=PK (own:=g.n) k1 k2 (k4 U) ha;exact⟨h.n,λaa r' e=>by cases e;exact⟨k1,AK k1 k2 (k4 U) ha,hs,λe=>E8 e⟩,λe _=>(by cases e),λd e=>Abn hs e,h.ra⟩
def MB (h:GI g)(m:Str):GI (Dc g m):=⟨h.n,λrs r e=>⟨(h.run rs r e).1,(h.run rs r e).2.1,(h.run rs r e).2.2.1,(λz=>by cases z)⟩,(λ_ e=>by cases e),λd e=>by cases e;exact .inr (.inr [m:1]),h.ra⟩
def nX:∀(zs O:oq Str),isT (Cl O)=v_->isT (Cl (Be O zs))=v_
 | [],O,h=>h
 |z::r,O,h=>by
  unfold Be;split
  ·rename_i c;exact nX r _ c
  ·exact h
def W4 (U:Qw qs){k:Str}(z:Str)(hk:nw k=v_):isT (XZ qs k z)=v_/\AN k (XZ qs k z)=true:=by
 unfold XZ;by_cases c:k="has"
 ·rw[A6 c,c];split<;>exact[():()]
 ·rw[A4 c];have O:isT (Cl (Be [] ((qs.map (·.1)).filter λy=>gQ y z)))=true:=nX _ [] ()
  exists O;have Z:Ln (Cl (Be [] ((qs.map (·.1)).filter λy=>gQ y z)))=true:=by
   show List.all (F0 D.str _) my=v_;rw[U3];intro x hx;erw[Ae.mp hx,y,hy,rfl];rcases Bd _ _ _ hy with h|h
   ·cases h
   ·exact U.1.1.1 y (Af.mp h).1
  unfold AN;rw[A4 (show¬yt (Cl _)=v_ from ub),A6 O,A4 c,Z,Bool.or_true]
def XG (h:GI g)(he:g.en=U_)(U:y6 g=U_):∃rs r k z,g.run=u_ (rs,r)/\r.th= .tup [.str "asks",.tup [.str k,.str z]]/\nw k=v_/\isT (.str z)=v_/\sT qs g=QX g (XZ qs k z):=by
 unfold y6 at U;cases Z:g.run with
 |none=>
  erw[h.no Z he,z,hz,_];have e:jO g= .tup [.str "rule",.str z]:=by unfold jO;rw[Z,hz]
  rw[e] at U;simp![show nw "rule"=V1 by decide+kernel,A4 ub] at U
  cases U
 |some p=>
  erw[p,rs,r];erw[h.run rs r Z,k1,k2,k3,k4];have O:=k4 he;rcases k3 with⟨z,e⟩|⟨d,e,_⟩|⟨u,z,e,ht,hu⟩
  ·rw[e] at O;exact A8 O (by show¬decide (("fault":Str)="asks")=v_;decide+kernel)
  ·rw[e] at O;exact A8 O (by show¬decide (("said":Str)="asks")=v_;decide+kernel)
  ·have e2:jO g= .tup [.str u,.str z]:=by unfold jO;rw[Z];show X4 r.th=_;rw[e];rfl
   rw[e2] at U;simp only at U;cases hk:nw u with
   |false=>rw[hk,A4 ub] at U;cases U
   |true=>exact⟨rs,r,u,z,1,e,hk,ht,by unfold sT;rw[e2]⟩
variable {m:Str}
def WC (h:GI g)(he:g.en=U_)(O:y6 g=u_ m):nm m=v_/\((g.run=U_/\g.mb= .str m)∨∃rs r,g.run=u_ (rs,r)/\r.th= .tup [.str "asks",.tup [.str "thing",.str m]]):=by
 unfold y6 at O;cases Z:g.run with
 |none=>
  erw[h.no Z he,z,hz,hn];have e:jO g= .tup [.str "rule",.str z]:=by unfold jO;rw[Z,hz]
  rw[e] at O;simp![show nw "rule"=V1 by decide+kernel,A4 ub] at O
  cases O;exact[hn:.inl [1:hz]]
 |some p=>
  erw[p,rs,r];erw[h.run rs r Z,k1,k2,k3,k4];have U:=k4 he;rcases k3 with⟨z,e⟩|⟨d,e,_⟩|⟨u,z,e,ht,hu⟩
  ·rw[e] at U;exact A8 U (by show¬decide (("fault":Str)="asks")=v_;decide+kernel)
  ·rw[e] at U;exact A8 U (by show¬decide (("said":Str)="asks")=v_;decide+kernel)
  ·have e2:jO g= .tup [.str u,.str z]:=by unfold jO;rw[Z];show X4 r.th=_;rw[e];rfl
   rw[e2] at O;simp only at O;rcases hu with rfl|⟨rfl|rfl,hn⟩
   ·rw[A6 ()] at O;cases O
   ·rw[A4 ()] at O
    cases O;exact[hn:.inr ⟨rs,r,1,e⟩]
   ·rw[A6 ()] at O;cases O
def MC (U:Qw qs)(h:GI g)(O:g.en=U_)(Z:y6 g=U_):GI (sT qs g):=by
 erw[XG (qs:=qs) h O Z,rs,r,k,z,_,_,hk,_,e];rw[e];exact AB h O (.inr (W4 U z hk).1)
def J5 (U:Qw qs)(h:m∈qs.map (·.1)):nm m=v_/\∃k e,qB qs m= .tup [.str k,e]/\(k="made"->∃z,e= .str z/\nm z=v_)/\(k≠"made"->(k="leaf"∨k="rule")/\isT e=v_):=by
 have hs:=U.1.2 _ (Pr U.1.1.2 h);erw[hs,[k,e,O],h2,_];have O:qB qs m= .tup [.str k,e]:=O;have h2:oZ (qB qs m)=true:=h2;rw[O] at h2;have e1:oZ (.tup [.str k,e])=if eqD (.str k) (.str "made")=v_ then my e else(eqD (.str k) (.str "leaf")||eqD (.str k) (.str "rule"))&&isT e:=rfl
 rw[e1] at h2;have Z:∀y:Str,eqD (.str k) (.str y)=decide (k=y):=λy=>rfl;rw[Z,Z,Z] at h2;exists U.1.1.1 m h,k,e,O,λc=>?_,λc=>?_
 ·rw[uh c,A6 rfl] at h2;exact EF h2
 ·rwa[ug c,A4 ub,uG,GV,vi,vi] at h2
def CC (U:Qw qs)(h:g0D m (qB qs m)=u_ g):GI g/\g.n=m:=by
 have hm:m∈qs.map (·.1):=(ya qs).gn m g h;erw[J5 U hm,hn,k,e,hd,h1,h2];rw[hd] at h;unfold g0D at h;simp only at h;have O:nL ([]:oq D)=v_/\dpL ([]:oq D)<=30/\↑([]:oq D)<=1:=⟨1,by simp[dpL],uY _⟩
 split at h
 ·cases h
 ·split at h
  ·rename_i c
   cases h;erw[h1 c,z,rfl,hz];exact⟨⟨hn,λrs r e=>(by cases e),λ_ _=>[z:1:hz],λd e=>(by cases e),O⟩,1⟩
  ·cases h;exists MD e hn rfl O;unfold ml;split
   ·rfl
   ·split<;>rfl
def DB (h:GI g){v:D}(e:Zu g=u_ v):isT v=true:=by
 unfold Zu at e;cases O:g.en with
 |none=>rw[O] at e;cases e
 |some d=>
  rw[O] at e;have e:xF d=u_ v:=e;rcases h.en d O with⟨z,rfl⟩|⟨x,rfl,U⟩|⟨z,rfl⟩
  ·exact A8 e (by unfold xF flt;simp only;rw[A4 ()];exact λh=>by cases h)
  ·have e3:xF (.tup [.str "said",x])=u_ x:=by unfold xF;dsimp only;exact A6 rfl
   rw[e3] at e;cases e;exact U
  ·exact A8 e (by unfold xF;simp only;rw[A4 ()];exact λh=>by cases h)
def C7 (g:Gp)(d:D):(QX g d).n=g.n:=by
 unfold QX;split
 ·unfold ml;split
  ·rfl
  ·split<;>rfl
 ·rfl
def AaE (qs:oq (Str×D))(g:Gp):(sT qs g).n=g.n:=by
 unfold sT;split
 ·exact C7 _ _
 ·rfl
nonrec def SGI {qs:oq (Str×D)}(S:Sy.Ss (SyP qs)):Prop:=∀p:Str×Gp,p∈S.stk∨p∈S.don->GI p.2/\p.2.n=p.1
def LN (Z:Qw qs){S:Sy.Ss (SyP qs)}(h:SGI S){a:ot D}(e:Sy.yet S m=u_ (u_ a)):zg (a.getD .non):=by
 unfold Sy.yet at e;split at e
 ·cases e
 ·split at e
  ·rename_i O
   cases e;have O:g0D m (qB qs m)=none:=O;show zg ((oF (qB qs m)).getD .non);by_cases hm:m∈qs.map (·.1)
   ·erw[J5 Z hm,hn,k,e,hd,h1,h2];rw[hd] at O⊢;unfold g0D at O;simp only at O;by_cases c:k="leaf"
    ·exact .inr (h2 (by rw[c];decide+kernel)).2
    ·rw[A4 c] at O;split at O<;>cases O
   ·rw[Y7 hm];exact .inl rfl
  ·cases hd:Sy.YX S.don m with
   |none=>rw[hd] at e;cases e
   |some g=>
    rw[hd] at e;have e:(Zu g).map u_=u_ a:=uM e;cases U:Zu g with
    |none=>rw[U] at e;cases e
    |some v=>
     rw[U] at e;cases e;exact .inr (DB (h (m,g) (.inr (Sy.WT hd))).1 U)
def Eg (hq:Qw qs){S:Sy.Ss (SyP qs)}(h:SGI S):SGI (Sy.nxt S):=by
 erw[S,stk,don];cases stk with
 |nil=>exact h
 |cons p r=>
  erw[p,n,g];erw[h (n,g) (.inl ui),U,hn];have on:∀g':Gp,GI g'->g'.n=n->SGI #[Y,(n,g')::r,don]:=by
   intro g' h1 h2 p O;rcases O with O|O
   ·rcases Aa.mp O with rfl|O
    ·exact[h1:h2]
    ·exact h p (.inl (uj _ O))
   ·exact h p (.inr O)
  unfold Sy.nxt;simp only;by_cases hf:(SyP qs).fin g=v_
  ·rw[A6 hf];intro p O;rcases O with O|O
   ·exact h p (.inl (uj _ O))
   ·rcases Ac.mp O with O|O
    ·exact h p (.inr O)
    ·cases Ab.mp O;exact[U:hn]
  ·rw[A4 hf];have Z:Gp.en g=none:=by
    cases Z:Gp.en g with
    |none=>rfl
    |some d=>exact A8 (show(Gp.en g).isSome=v_ by rw[Z];rfl) hf
   cases hw:(SyP qs).want g with
   |none=>exact on _ (MC hq U Z hw) ((AaE qs g).trans hn)
   |some m=>
    simp only;cases hy:Sy.yet #[Y,(n,g)::r,don] m with
    |some o=>
     cases o with
     |some a=>exact on _ (AB U Z (LN hq h hy)) ((C7 _ _).trans hn)
     |none=>exact on _ (MB U m) hn
    |none=>
     erw[Sy.XB hy,_,[g',e],_];simp only;rw[e];intro p O;rcases O with O|O
     ·rcases Aa.mp O with rfl|O
      ·exact CC hq e
      ·exact h p (.inl O)
     ·exact h p (.inr O)
structure Oc where
 (x dx px ls du dr df:o6)
nonrec def ofs (o:Oc):oq (Str×V):= [("given_project",.ref o.px),("stack",.ref o.ls),("under_way",.ref o.du),("full_runs",.ref o.dr),("found",.ref o.df)]
nonrec def OMT:oq Str:= ["go_through","enter","settle","runner","leave","go_on","answer_yet","begin_anew"]
def OM (o:Oc):(ofs o).lookup ("given_project":Str)=u_ (.ref o.px):=rfl
def K9 (o:Oc):(ofs o).lookup ("stack":Str)=u_ (.ref o.ls):=rfl
def OK (o:Oc):(ofs o).lookup ("under_way":Str)=u_ (.ref o.du):=rfl
def AcG (o:Oc):(ofs o).lookup ("full_runs":Str)=u_ (.ref o.dr):=rfl
def La (o:Oc):(ofs o).lookup ("found":Str)=u_ (.ref o.df):=rfl
def ZP (o:Oc):∀m∈OMT,(ofs o).lookup m=none:=by
 intro m hm;simp![OMT,uH,uI,uS] at hm;rcases hm with rfl|rfl|rfl|rfl|rfl|rfl|rfl|rfl<;>rfl
structure Kp (L:oq o6)(H H':Hp):Prop where
 kept:∀b ob,H b=u_ ob->b∉L->H' b=u_ ob
 tk:Tk H H'
variable {L:oq o6}{H H':Hp}
def Kp.of (s:ig H H'):Kp L H H':=[λb ob h _=>s b ob h:s.tk]
variable {H1 H2:Hp}
def Kp.trans (h:Kp L H H1)(k:Kp L H1 H2):Kp L H H2:=[λb ob e n=>k.kept b ob (h.kept b ob e n) n:h.tk.trans k.tk]
variable {p:o6}
def Kp.updD {xs ys:oq (Key×V)}(h:H p=u_ (.dK xs))(O:p∈L):Kp L H (upd H p (.dK ys)):=⟨λb ob e n=>by have nb:b≠p:=(λz=>n (by rwa[z]));rwa[qh nb],Tk.updD h⟩
def Z9 {κ:Type}[DecidableEq κ](k j:κ):∀kvs:oq (κ×V),iJ (Jp kvs k) j=if j=k then U_ else iJ kvs j
 | []=>by show U_=_;split<;>rfl
 |p::r=>by
  by_cases c:p.1=k
  ·rw[Fr c,Z9 k j r];by_cases d:j=k
   ·rw[A6 d,A6 d]
   ·rw[A4 d,A4 d,QA (λz=>d (z.symm.trans c))]
  ·rw[Ia c];by_cases d:p.1=j
   ·rw[QF d,A4 (λz=>c (d.trans z)),QF d]
   ·rw[QA d,Z9 k j r,QA d]
variable {C:o6}
def Q7.kp {x:o6}(h:Q7 C H x qs)(k:Kp L H H')(U:∀p∈L,(∃xs,H p=u_ (.lst xs))∨(∃xs,H p=u_ (.dK xs))∨H p=U_):Q7 C H' x qs:=by
 erw[h,dx,d,o,vs,O,e2,e3,Z];have n1:x∉L:=λz=>by rcases U x z with⟨_,e⟩|⟨_,e⟩|e<;>rw[e] at O<;>cases O
 have n2:d∉L:=λz=>by rcases U d z with⟨_,e⟩|⟨_,e⟩|e<;>rw[e] at e2<;>cases e2
 exact⟨dx,d,o,vs,k.kept _ _ O n1,k.kept _ _ e2 n2,e3,Z.mono k.tk⟩
structure OAt (CO CP:o6)(H:Hp)(o:Oc)(qs:oq (Str×D)):Prop where
 e:H o.x=u_ (.ins CO o.dx (ofs o))
 p:Q7 CP H o.px qs
def OAt.kp {CO CP:o6}{o:Oc}(h:OAt CO CP H o qs)(k:Kp L H H')(O:∀p∈L,(∃xs,H p=u_ (.lst xs))∨(∃xs,H p=u_ (.dK xs))∨H p=U_):OAt CO CP H' o qs:=by
 exists k.kept _ _ h.e (λz=>?_),h.p.kp k O;have U:=h.e;rcases O o.x z with⟨_,e⟩|⟨_,e⟩|e<;>rw[e] at U<;>cases U
nonrec def PL {qs:oq (Str×D)}(S:Sy.Ss (SyP qs))(uk:oq (Key×V)):Prop:=∀m:Str,(iJ uk (V3 m)).isSome=decide (m∈S.stk.map (·.1))
nonrec def CV {qs:oq (Str×D)}(H:Hp)(S:Sy.Ss (SyP qs))(fk:oq (Key×V)):Prop:=∀(m:Str) (g:Gp),g0D m (qB qs m)=u_ g->
 (∀g':Gp,Sy.YX S.don m=u_ g'->∃v,iJ fk (V3 m)=u_ v/\Is H (yn (g'.en.getD .non)) v)/\(Sy.YX S.don m=U_->iJ fk (V3 m)=U_)
def CV.mono {S:Sy.Ss (SyP qs)}{fk:oq (Key×V)}(h:CV H S fk)(t:Tk H H'):CV H' S fk:=λm g O=>⟨λg' e=>let⟨v,a,b⟩:=(h m g O).1 g' e;[v:a:b.mono t],(h m g O).2⟩
nonrec def LH:ot (ot D)->D->Prop
 |some (u_ v),d=>d= .tup [.str "value",v]
 |some U_,d=>d= .tup [.str "lack"]
 |none,d=>∃k r,d= .tup (.str k::r)/\k≠"value"/\k≠"lack"
nonrec def nrg (d:D):Prop:=∃k r,d= .tup (.str k::r)/\(k="value"∨k="lack"∨k="fault"∨k="stuck")
nonrec def AbB (qs:oq (Str×D))(don:oq (Str×Gp))(m:Str):D:=match g0D m (qB qs m) with
 |none=>Yu (qB qs m)
 |some _=>yn (((Sy.YX (Y:=SyP qs) don m).bind λg:Gp=>g.en).getD .non)
nonrec def AO {qs:oq (Str×D)}(H:Hp)(S:Sy.Ss (SyP qs))(m:Str)(v:V):Prop:=match Sy.yet S m with
 |none=>v= .non
 |some o=>∃d,Is H d v/\LH o d/\(m∉S.stk.map (·.1)->nrg d/\d=AbB qs S.don m)
inductive SV (CO CP:Addr):Sp
 |mk (o:Oc)(m:Str)(qs:List (Str×D))(S:Sy.Ss (SyP qs))(uk fk:List (Key×V))(_:vs= [.ref o.x,.str m])(_:OAt CO CP H o qs)(_:Qw qs)(_:SGI S)(_:H o.du=u_ (.dK uk))(_:PL S uk)(_:H o.df=u_ (.dK fk))(_:CV H S fk)(_:↑fk<=100000)(_:(∀p∈S.don,(SyP qs).fin p.2=v_))(_:∀(v:V)(H':Hp)(fk':List (Key×V)),Kp [o.df] H H'->H' o.df=u_ (.dK fk')->CV H' S fk'->↑fk'<=↑fk+1->(Sy.yet S m=U_->↑fk'=↑fk)->AO H' S m v->Q v H')
inductive Dw (CO:Addr):Sp
 |mk (x dx px:Addr)(_:vs= [.ref x,.ref px])(_:H x=u_ (.ins CO dx []))(_:∀(o:Oc)(H':Hp),o.x=x->o.dx=dx->o.px=px->(∀b ob,H b=u_ ob->b≠x->H' b=u_ ob)->Tk H H'->H o.ls=U_->H o.du=U_->H o.dr=U_->H o.df=U_-> [o.ls,o.du,o.dr,o.df].Nodup->H' x=u_ (.ins CO dx (ofs o))->H' o.ls=u_ (.lst [])->H' o.du=u_ (.dK [])->H' o.dr=u_ (.dK [])->H' o.df=u_ (.dK [])->Q .non H')
inductive IT:Sp
 |mk (x:_)(y:_)(_:vs= [x,y])(_:Q .non H)
def KM (O:Qw qs)(h:g0D m (qB qs m)=U_):∃k,Yu (qB qs m)= .tup k/\LH (u_ (oF (qB qs m))) (.tup k)/\nrg (.tup k):=by
 by_cases hm:m∈qs.map (·.1)
 ·erw[J5 O hm,hn,k,e,hd,h1,h2];rw[hd] at h⊢;unfold g0D at h;simp only at h;by_cases c:k="leaf"
  ·exists [.str "value",e],?_,1,[_:0:.inl rfl];unfold Yu;simp only;exact A6 c
  ·rw[A4 c] at h;split at h<;>cases h
 ·rw[Y7 hm];exact[0:1:[_:0:.inr (.inl rfl)]]
def Og (O:Qw qs)(h:g0D m (qB qs m)=u_ g):Yu (qB qs m)= .non:=by
 erw[J5 O ((ya qs).gn m g h),hn,k,e,hd,h1,h2];rw[hd] at h⊢;unfold g0D at h;simp only at h;by_cases c:k="leaf"
 ·rw[A6 c] at h;cases h
 ·unfold Yu;simp only;exact A4 c
def AbA (h:GI g)(Z:g.en.isSome=v_):LH ((Zu g).map u_) (yn (g.en.getD .non)):=by
 cases U:g.en with
 |none=>rw[U] at Z;cases Z
 |some d=>
  unfold Zu;rw[U];show LH ((xF d).map u_) (yn d);rcases h.en d U with⟨z,rfl⟩|⟨x,rfl,hx⟩|⟨z,rfl⟩
  ·have O:xF (flt z)=none:=by unfold xF flt;dsimp only;exact A4 ()
   have e2:yn (flt z)=flt z:=by unfold yn flt;dsimp only;exact A4 ()
   rw[O,e2];exact⟨"fault",[.str z],1,(),()⟩
  ·have O:xF (.tup [.str "said",x])=u_ x:=by unfold xF;dsimp only;exact A6 rfl
   have e2:yn (.tup [.str "said",x])= .tup [.str "value",x]:=by unfold yn;dsimp only;exact A6 rfl
   rw[O,e2];exact rfl
  ·have O:xF (.tup [.str "stuck",.str z])=none:=by unfold xF;dsimp only;exact A4 ()
   have e2:yn (.tup [.str "stuck",.str z])= .tup [.str "stuck",.str z]:=by unfold yn;dsimp only;exact A4 ()
   rw[O,e2];exact⟨"stuck",[.str z],1,(),()⟩
def PH (h:GI g)(O:g.en.isSome=v_):nrg (yn (g.en.getD .non)):=by
 cases U:g.en with
 |none=>rw[U] at O;cases O
 |some d=>
  show nrg (yn d);rcases h.en d U with⟨z,rfl⟩|⟨x,rfl,Z⟩|⟨z,rfl⟩
  ·have e2:yn (flt z)=flt z:=by unfold yn flt;dsimp only;exact A4 ()
   rw[e2];exact[_:0:.inr (.inr (.inl rfl))]
  ·have e2:yn (.tup [.str "said",x])= .tup [.str "value",x]:=by unfold yn;dsimp only;exact A6 rfl
   rw[e2];exact[_:0:.inl rfl]
  ·have e2:yn (.tup [.str "stuck",.str z])= .tup [.str "stuck",.str z]:=by unfold yn;dsimp only;exact A4 ()
   rw[e2];exact[_:0:.inr (.inr (.inr rfl))]
section
variable {P:oh}{w:oj}{K:o0}{mg:Str->ot o7}{base:og}{a:Ad}{g:Ga}
def KR:#[T,1,a.je,a.Y1,["self","going"],IT]:=by
 exists 9,T.lj,xO,O
 erw[h,x,y,rfl,q];exists 3,%[|NW]
 exact q
def OJ:#[T,1,a.yx,a.yF,["self","project"],(Dw a.qo)]:=by
 exists 9,T.iw,jq
 erw[h,x,dx,px,rfl,hx,q];have hs:=uE;exists 3,%[#[Qe,pv 1],#[Qe,#[Y4,qd]],#[Qe,jL],#[Qe,jL]|#[Qe,jL]]
 exists 0,0,x,_,dx,0,hx,T.qy,T.Qd,()
 exists (sml rfl),λU h1=>?_;have n1:x≠U:=qi qg h1
 exists 5
 refine⟨0,x,_,dx,0,(qh n1).trans qg,T.qy,T.Qz,by show 1<1000;decide,?_⟩
 intro Z h2;have n2:x≠Z:=qi qg h2
 exists 5
 refine⟨0,x,_,dx,0,(qh n2).trans qg,T.qy,T.Qv,by show 2<1000;decide,?_⟩
 intro l3 h3;have n3:x≠l3:=qi qg h3
 exists 5
 refine⟨0,x,_,dx,0,(qh n3).trans qg,T.qy,T.yI,by show 3<1000;decide,?_⟩
 intro l4 h4;have n4:x≠l4:=qi qg h4
 exists 5
 refine⟨0,x,_,dx,0,(qh n4).trans qg,T.qy,T.QB,by show 4<1000;decide,?_⟩
 rw[qh n1.symm] at h1;have O:Z≠U:=λz=>by rw[z,qh n1.symm,qg] at h2;cases h2
 have k2:H Z=none:=by rwa[qh n2.symm,qh O,qh n2.symm] at h2
 have aa:l3≠Z:=λz=>by rw[z,qh n2.symm,qg] at h3;cases h3
 have ac:l3≠U:=λz=>by rw[z,qh n1.symm,qh O.symm,qh n1.symm,qg] at h3;cases h3
 have k3:H l3=none:=by rwa[qh n3.symm,qh aa,qh n3.symm,qh ac,qh n3.symm] at h3
 have ad:l4≠l3:=λz=>by rw[z,qh n3.symm,qg] at h4;cases h4
 have ae:l4≠Z:=λz=>by rw[z,qh n2.symm,qh aa.symm,qh n2.symm,qg] at h4;cases h4
 have af:l4≠U:=λz=>by rw[z,qh n1.symm,qh ac.symm,qh n1.symm,qh O.symm,qh n1.symm,qg] at h4;cases h4
 have k4:H l4=none:=by rwa[qh n4.symm,qh ad,qh n4.symm,qh ae,qh n4.symm,qh af,qh n4.symm] at h4
 have kp:∀b ob,H b=u_ ob->b≠x->(upd (upd (upd (upd (upd (upd (upd (upd (upd H x (.ins a.qo dx (iE "given_project" (V.ref px) []))) U (.lst [])) x (.ins a.qo dx (iE "stack" (V.ref U) (iE "given_project" (V.ref px) [])))) Z (.dK [])) x (.ins a.qo dx (iE "under_way" (V.ref Z) (iE "stack" (V.ref U) (iE "given_project" (V.ref px) []))))) l3 (.dK [])) x (.ins a.qo dx (iE "full_runs" (V.ref l3) (iE "under_way" (V.ref Z) (iE "stack" (V.ref U) (iE "given_project" (V.ref px) [])))))) l4 (.dK [])) x (.ins a.qo dx (iE "found" (V.ref l4) (iE "full_runs" (V.ref l3) (iE "under_way" (V.ref Z) (iE "stack" (V.ref U) (iE "given_project" (V.ref px) []))))))) b=u_ ob:=λb ob h nb=>by
  rwa[qh nb,qh (qi h k4),qh nb,qh (qi h k3),qh nb,qh (qi h k2),qh nb,qh (qi h h1),qh nb]
 refine q ⟨x,dx,px,U,Z,l3,l4⟩ _ rfl rfl rfl kp ?_ h1 k2 k3 k4 ?_ ?_ ?_ ?_ ?_ ?_
 ·exists 5
  refine[λb xs e=>kp b _ e (λz=>?_):λb xs e=>[xs:kp b _ e (λz=>?_)]:λb xs e=>[xs:kp b _ e (λz=>?_)]]<;>(rw[z,hx] at e;cases e)
 ·simp![U0,uH,uI,uS,V0,UU,vC,and_true];exact[[O.symm:ac.symm:af.symm]:[aa.symm:ae.symm]:ad.symm]
 ·exact qg
 ·rw[qh n1.symm,qh af.symm,qh n1.symm,qh ac.symm,qh n1.symm,qh O.symm,qh n1.symm];exact qg
 ·rw[qh n2.symm,qh ae.symm,qh n2.symm,qh aa.symm,qh n2.symm];exact qg
 ·rw[qh n3.symm,qh ad.symm,qh n3.symm];exact qg
 ·rw[qh n4.symm];exact qg
def KQ:#[T,2,a.yU,a.ju,["self","project"],(Dw a.qo)]:=by
 have U:=#[OJ,T];exists 9,T.lL,XF,Z
 erw[h,x,dx,px,rfl,O,q];exists 3,%[|#[qY,#[Qf,20,pv 0,T.qy,T.iw.h,U,Z.mono (),T.iw.b,.nil,qE,#v[pv 1],_,_,_]]]
 exact⟨0,x,dx,0,O,1,0,x,dx,px,1,O,q⟩
def D2:#[T,2,a.yp,a.yB,["self","name"],(SV a.qo a.qG)]:=by
 have qK:=#[yN,T];have QT:=#[Ao,T];exists 9,T.im,ym
 erw[h,o,m,qs,S,uk,fk,rfl,hO,hq,hG,ac,hU,aa,hF,hl,Z,k];have hs:=uE;exists 3,%[#[qM,#[wI,#[Wk,Qs hr,pv 1,#[qO,5,pv 0,rfl]]],%[|#[qq,#[qz,#v[qm]]]],qv],#[qH,(2),ym.nd,#[qu,QT,hr.mono (),T.iC,#v[#[Qf,#[qO,5,pv 0,rfl],T.QS,T.ii,qK,#v[pv 1]]]]],#[qM,#[qr,xp,pv 2,qQ],%[|#[jj,#[qO,5,pv 0,rfl],pv 1,pv 2]],qv]|#[qq,#[kE,7,Qs hr,#[qO,5,pv 0,rfl],pv 1,⟨1,1,1,1⟩]]]
 exists 0,0,o.x,_,o.dx,_,0,hO.e,T.qy,T.Qv,OK o,o.du,0,mM.k (k:=V3 m) ac,0;rw[hU m];by_cases c:m∈S.stk.map (·.1)
 ·have ey:Sy.yet S m=u_ none:=by unfold Sy.yet;rw[A6 c]
  refine lN (uh c) [(sml rfl):λt ht=>?_];have s1:=qf ht (.tup [V.str "ring"]);refine k _ _ fk (Kp.of s1) (s1 _ _ aa) (hF.mono s1.tk) (GF _) (λ_=>rfl) ?_;unfold AO;rw[ey];exact⟨_,Is.new (ds:= [.str "ring"]) ⟨_,0,Qb (),1⟩ ht,⟨"ring",[],1,(),()⟩,λz=>A8 c z⟩
 refine iR (ug c) ?_
 exists 0,o.x,_,o.dx,_,0,hO.e,T.qy,T.Qd,OM o;erw[id hO.p,ad,dp,op,ah,hx,hd,hk,hv]
 exists o.px,ad,0,hx,yk,0,o.px,m,qs,1,hO.p,λv h1 h2=>?_;have ae:Is H (qB qs m) v:=by
  by_cases cm:m∈qs.map (·.1)
  ·exact h1 cm
  ·rw[h2 cm,Y7 cm];exact rfl
 exists v,qB qs m,1,ae,?_,λu H1 s1 hu=>?_
 ·by_cases cm:m∈qs.map (·.1)
  ·erw[J5 hq cm,_,k,e,hd,_];exact .inr [k:e:hd]
  ·exact .inl (Y7 cm)
 have O:=s1 _ _ aa
 exists 0,1,0;cases hg:g0D m (qB qs m) with
 |none=>
  erw[KM hq hg,l,e1,e2,e3];rw[e1] at hu;have af:u≠ .non:=jB hu (by intro z;cases z)
  have ey:Sy.yet S m=u_ (u_ (oF (qB qs m))):=by have U:=hg;unfold Sy.yet;rw[A4 c,show(SyP qs).g0 m=_ from U];rfl
  refine lN (by simp[af]) ?_
  have kp:Kp [o.df] H (upd H1 o.df (.dK (lm fk (V3 m) u))):=(Kp.of s1).trans (Kp.updD O ui)
  exists 0,0,o.x,_,o.dx,_,0,s1 _ _ hO.e,T.qy,T.QB,La o,0,o.df,0,CQ.k (k:=V3 m) O ()
  have ag:=hO.kp kp (by intro p hp;cases Ab.mp hp;exact .inr (.inl [_:aa]))
  exists 0,o.x,_,o.dx,_,0,ag.e,T.qy,T.QB,La o,o.df,1,.inl [_:.inl qg],0,_,mM.k (k:=V3 m) qg;rw[XA,A6 rfl];refine k _ _ _ kp qg ?_ (QY _ _ _) (λz=>by rw[ey] at z;cases z) ?_
  ·intro m' g' U;rw[XA,A4 (λz=>by injection z with z;rw[z,hg] at U;cases U)]
   exact(hF.mono kp.tk) m' g' U
  ·unfold AO;rw[ey];exact⟨_,(hu.mono (Tk.updD O)),e2,λ_=>⟨e3,by unfold AbB;rw[hg];exact e1.symm⟩⟩
 |some g=>
  rw[Og hq hg] at hu;cases(show u= .non from hu)
  refine iR (by simp) ?_
  exists 0,o.x,_,o.dx,_,0,s1 _ _ hO.e,T.qy,T.QB,La o,o.df,1,.inl [_:.inl O],0,_,mM.k (k:=V3 m) O;refine k _ _ fk (Kp.of s1) O (hF.mono s1.tk) (GF _) (λ_=>rfl) ?_;have ey:Sy.yet S m=(Sy.YX S.don m).map λg=>(Zu g).map some:=by have U:=hg;unfold Sy.yet;rw[A4 c,show(SyP qs).g0 m=_ from U];rfl
  erw[hF m g hg,f1,f2];unfold AO;rw[ey];cases hd:Sy.YX S.don m with
  |none=>
   rw[f2 hd];exact rfl
  |some g'=>
   erw[f1 g' hd,y,e1,e2];rw[e1];exact⟨_,e2.mono s1.tk,AbA (hG (m,g') (.inr (Sy.WT hd))).1 (Z (m,g') (Sy.WT hd)),λ_=>⟨PH (hG (m,g') (.inr (Sy.WT hd))).1 (Z (m,g') (Sy.WT hd)),by unfold AbB;rw[hg,hd];rfl⟩⟩
structure nh (g:Gc)(s:Gs)(p:Gp):Prop where
 n:g.n=p.n
 mb:s.mb=p.mb
 ra:s.ra=p.ra
 run:(s.run.map λq=>(q.1.rs,q.2))=p.run
 own:∀mc r,s.run=u_ (mc,r)->mc.own=g.n
 en:s.en=p.en.getD .non
nonrec def P8:ot (Mc×Rn)->oq o6
 |none=> []
 |some (mc,_)=> [mc.x,mc.db,mc.dg]
nonrec def plc (g:Gc)(s:Gs):oq o6:=g.x::P8 s.run
def nh.none {g:Gc}{s:Gs}{p:Gp}(h:nh g s p)(e:p.run=U_):s.run=none:=by
 have:=h.run;rw[e] at this;cases O:s.run with
 |none=>rfl
 |some q=>rw[O] at this;cases this
def nh.some {g:Gc}{s:Gs}{p:Gp}(h:nh g s p){rs:oq Rw}{r:Rn}(e:p.run=u_ (rs,r)):∃mc:Mc,s.run=u_ (mc,r)/\mc.rs=rs/\mc.own=g.n:=by
 have:=h.run;rw[e] at this;cases O:s.run with
 |none=>rw[O] at this;cases this
 |some q=>
  erw[q,mc,r'];rw[O] at this;cases this;exact⟨mc,1,1,h.own mc r' O⟩
variable {CM:o6}
def md.frame {g:Gc}{s:Gs}(h:md C CM H g s)(O:∀b∈plc g s,∀ob,H b=u_ ob->H' b=u_ ob)(t:Tk H H'):md C CM H' g s:=by
 erw[h,dx,fs,mv,av,rv,ev,e,f,i,j,k,l];exists dx,fs,mv,av,rv,ev,O _ ui _ e,f,i.mono t,j.mono t,?_,l.mono t;cases U:s.run with
 |none=>rwa[U] at k
 |some q=>
  erw[q,mc,r];have hp:plc g s= [g.x,mc.x,mc.db,mc.dg]:=by unfold plc P8;rw[U]
  rw[hp] at O;rw[U] at k;erw[k,k1,k2,dm,fm,Z,ru,tv,gv,em,aa,i1,i2,[bf,ib,jb],i4,i5,i6];exact⟨k1,k2,dm,fm,Z,ru,tv,gv,O _ (by simp) _ em,aa,i1.mono t,i2.mono t,⟨bf,O _ (by simp) _ ib,λz hz=>(jb z hz).mono t⟩,O _ (by simp) _ i4,i5.mono t,i6.mono t⟩
def md.there {g:Gc}{s:Gs}(h:md C CM H g s):∀b∈plc g s,∃ob,H b=u_ ob:=by
 erw[h,dx,fs,mv,av,rv,ev,e,f,i,j,k,l];intro b O;rcases Aa.mp O with rfl|O
 ·exact[_:e]
 ·cases U:s.run with
  |none=>rw[U] at O;cases O
  |some q=>
   erw[q,mc,r];rw[U] at O k;erw[k,k1,k2,dm,fm,Z,ru,tv,gv,em,aa,i1,i2,[bf,ib,jb],i4,i5,i6];simp![P8,uH,uI,uS] at O;rcases O with rfl|rfl|rfl
   ·exact[_:em]
   ·exact[_:ib]
   ·exact[_:i4]
def Iu {g:Gc}{d:D}{s s':Gs}{p:Gp}(b:LL H g d s s')(h:nh g s p)(U:p.run=U_)(he:p.en=U_):nh g s' (ml p d)/\∀c∈plc g s',c=g.x∨H c=none:=by
 have hr:=h.none U;have Z:s.en= .non:=by rw[h.en,he];rfl
 have nil:s'.run=U_->∀c∈plc g s',c=g.x∨H c=none:=λe c O=>by
  unfold plc at O;rw[e] at O;rcases Aa.mp O with z|z
  ·exact .inl z
  ·cases z
 unfold ml;by_cases c:d= .non
 ·erw[b.lack c,b1,b2];rw[A6 (by rw[c];rfl)]
  exact⟨⟨h.n,b.mb.trans h.mb,b.ra.trans h.ra,(by show _=p.run;rw[b1,U];rfl),(λmc r e=>by rw[b1] at e;cases e),b2⟩,nil b1⟩
 ·rw[A4 (λz=>c (by cases d with|non=>rfl|_=>cases z))]
  cases hd:QK d with
  |none=>
   erw[b.rule c hd,b1,b2];exact⟨⟨h.n,b.mb.trans h.mb,b.ra.trans h.ra,(by show _=p.run;rw[b1,U];rfl),(λmc r e=>by rw[b1] at e;cases e),b2⟩,nil b1⟩
  |some rs=>
   erw[b.go rs hd,mc,c1,c2,c3,c4,c5,c6,c7];exists ⟨h.n,b.mb.trans h.mb,b.ra.trans h.ra,?_,λaa r e=>?_,?_⟩,λc O=>?_
   ·rw[c6];show u_ (mc.rs,R0 rs g.n)=u_ (rs,R0 rs p.n);rw[c4,h.n]
   ·rw[c6] at e;cases e;exact c5
   ·rw[c7,h.n,Z];show _=(mY (R0 rs p.n)).getD .non;unfold mY;split<;>rfl
   ·unfold plc at O;rw[c6] at O;simp![P8,uH,uI,uS] at O;rcases O with z|rfl|rfl|rfl
    ·exact .inl z
    ·exact .inr c1
    ·exact .inr c2
    ·exact .inr c3
nonrec def Ky:ot (oq Rw×Rn)->oq D
 |none=> []
 |some (_,r)=>r.gs
nonrec def kP (p:Gp):D:= .tup [.tup (p.ra++Ky p.run),p.en.getD .non]
def BK {g:Gc}{s:Gs}{p:Gp}(h:nh g s p):Lw s=kP p:=by
 unfold Lw kP;rw[h.ra,h.en];have e:Aae s.run=Ky p.run:=by
  rw[<-h.run];cases s.run with
  |none=>rfl
  |some q=>rfl
 rw[e]
def Lv {p:Gp}(h:GI p):↑p.ra+↑(Ky p.run)<=1000:=by
 have h1:=h.ra.2.2;cases O:p.run with
 |none=>show _+0<=1000;omega
 |some q=>
  erw[q,rs,r];have h2:=(h.run rs r O).2.1;have h3:=h2.gs.2.2;have h4:=h2.n;show _+↑r.gs<=1000;omega
inductive IX (CO CP CG CM:Addr):Sp
 |mk (o:Oc)(m:Str)(qs:List (Str×D))(xs:List V)(uk:List (Key×V))(p:Gp)(_:vs= [.ref o.x,.str m])(_:OAt CO CP H o qs)(_:Qw qs)(_:H o.ls=u_ (.lst xs))(_:↑xs<=100000)(_:H o.du=u_ (.dK uk))(_:↑uk<=100000)(_:g0D m (qB qs m)=u_ p)(_:∀(g:Gc)(s:Gs)(H':Hp),Kp [o.ls,o.du] H H'->H' o.ls=u_ (.lst (xs++ [.ref g.x]))->H' o.du=u_ (.dK (lm uk (V3 m) (.bl v_)))->md CG CM H' g s->nh g s p->g.o=o.x->(∀b∈plc g s,H b=U_)->Q .non H')
inductive Dl (CO CP CG CM:Addr):Sp
 |mk (o:Oc)(qs:List (Str×D))(g:Gc)(s:Gs)(p:Gp)(rk fk:List (Key×V))(_:vs= [.ref o.x,.ref g.x])(_:OAt CO CP H o qs)(_:md CG CM H g s)(_:nh g s p)(_:GI p)(_:p.en.isSome=v_)(_:H o.dr=u_ (.dK rk))(_:↑rk<=100000)(_:H o.df=u_ (.dK fk))(_:↑fk<=100000)(_:o.dr≠o.df)(_:o.dr∉plc g s)(_:o.df∉plc g s)(_:∀(v1 v2:V)(H':Hp),Kp [o.dr,o.df] H H'->H' o.dr=u_ (.dK (lm rk (V3 g.n) v1))->Is H' (kP p) v1->H' o.df=u_ (.dK (lm fk (V3 g.n) v2))->Is H' (yn (p.en.getD .non)) v2->Q .non H')
def KZ:#[C,12,a.Y5,a.Y2,["self","name"],(IX a.qo a.qG a.qJ a.ql)]:=by
 have qK:=#[yN,T];have O:=#[KW,T,C];exists 9,T.iI,xh
 erw[h,o,m,qs,xs,uk,p,rfl,hO,hq,U,ap,Z,aq,hp,k];have hs:=uE;exists 3,%[#[qY,#[XY,vb,vQ,vR,jr,#[qO,5,pv 0,rfl],#v[#[X8,T.M_Going,O,T.m_Going,T.mF,qE,#v[pv 1,#[Qf,#[qO,5,pv 0,rfl],T.QS,T.ii,qK,#v[pv 1]],pv 0]]]]]|#[jj,#[qO,5,pv 0,rfl],pv 1,YM]]
 exists 0,o.x,_,o.dx,_,0,hO.e,T.qy,T.Qz,K9 o,.inl [1:_:SqL.of U]
 exists 0,0,o.x,_,o.dx,_,0,hO.e,T.qy,T.Qd,OM o;erw[id hO.p,ak,dp,op,au,hx,hd,hk,hv]
 exists o.px,ak,0,hx,yk,0,o.px,m,qs,1,hO.p,λsv h1 h2=>?_;have hm:m∈qs.map (·.1):=(ya qs).gn m p hp;have af:=h1 hm;erw[J5 hq hm,hn,kk,e,al,g1,g2];rw[al] at af hp
 exists 0,λx dx aa ag nx=>?_;have s0:ig H (upd (upd H dx (.own x)) x (.ins a.qJ dx [])):=λb o h=>by rwa[qh (qi h aa),qh (qi h ag)]
 have nox:o.x≠x:=qi hO.e aa
 exists x,dx,o.x,m,kk,sv,e,1,qg,af.mono s0.tk,hn,nox,⟨_,_,s0 _ _ hO.e,ZP o _ ()⟩,λH1 s1 am aw G1 b1 b2=>[1:?_]
 have ac:ig H H1:=λb ob h=>am b ob (s0 b ob h) (qi h aa);have rel:nh ⟨x,o.x,m⟩ s1 p/\∀c∈plc ⟨x,o.x,m⟩ s1,H c=none:=by
  unfold g0D at hp;simp only at hp;split at hp
  ·cases hp
  ·split at hp
   ·rename_i c
    cases hp;have e1:=b1 c;rw[e1]
    exists ⟨1,1,1,1,(λ_ _ z=>by cases z),1⟩,λc hc=>?_
    rcases Aa.mp hc with rfl|hc
    ·exact aa
    ·cases hc
   ·rename_i c
    cases hp;obtain⟨r1,r2⟩:=Iu (p:=⟨m,.non,[],U_,U_⟩) (b2 c) ⟨1,1,1,1,(λ_ _ z=>by cases z),1⟩ rfl rfl
    exists r1,λc hc=>?_;rcases r2 c hc with rfl|hc
    ·exact aa
    ·exact s0.free hc
 exists o.ls,xs,0,1,ac _ _ U,()
 have ah:Kp [o.ls,o.du] H1 (upd H1 o.ls (.lst (xs++ [.ref x]))):=⟨λb ob h n=>by rw[qh (λz=>n (by rw[z];exact ui))];exact h,mH.tk (p:=o.ls) (λb ob h n=>by rwa[qh n]) (ac _ _ U) qg⟩
 have n1:o.du≠o.ls:=λz=>by rw[z,U] at Z;cases Z
 have ad:upd H1 o.ls (.lst (xs++ [.ref x])) o.du=u_ (.dK uk):=by rw[qh n1];exact ac _ _ Z
 have n2:o.x≠o.ls:=λz=>by have:=hO.e;rw[z,U] at this;cases this
 have n3:o.x≠o.du:=λz=>by have:=hO.e;rw[z,Z] at this;cases this
 exists 0,o.x,_,o.dx,_,0,(by rw[qh n2];exact ac _ _ hO.e),T.qy,T.Qv,OK o,0,o.du,0,CQ.k (k:=V3 m) ad ()
 have ao:=((Kp.of (L:= [o.ls,o.du]) ac).trans ah).trans (Kp.updD (ys:=lm uk (V3 m) (.bl v_)) ad (uj _ ui));refine k [x:o.x:m] s1 _ ao (by rw[qh n1.symm];exact qg) qg (G1.frame (λb hb ob h=>?_) ((ah.trans (Kp.updD (ys:=lm uk (V3 m) (.bl v_)) ad (uj _ ui)))).tk) rel.1 rfl rel.2
 have ae:=rel.2 b hb;have m1:b≠o.ls:=λz=>by rw[z,U] at ae;cases ae
 have m2:b≠o.du:=λz=>by rw[z,Z] at ae;cases ae
 rw[qh m2,qh m1];exact h
def D6:#[T,3,a.YQ,a.YK,["self","going"],(Dl a.qo a.qG a.qJ a.ql)]:=by
 have O:=#[OA,T];have xQ:=#[Bv,T];have X1:=#[KR,T];exists 9,T.iZ,JX
 erw[h,o,qs,g,st,p,rk,fk,rfl,hO,hG,hR,hI,ad,aa,ax,ae,ay,af,nr,nf,k];have hs:=uE;exists 3,%[#[jj,#[qO,5,pv 0,rfl],#[qO,5,pv 1,rfl],#[QE,pv 1,T.qP,T.mG,O]],#[jj,#[qO,5,pv 0,rfl],#[qO,5,pv 1,rfl],#[qu,xQ,hr.mono (),T.mf,#v[#[qO,5,pv 1,rfl]]]]|#[qY,#[Qf,pv 0,T.qy,T.lj,X1,#v[pv 1]]]]
 erw[id hG,dx,fs,mv,av,rv,ev,e,f,i,j,aA,l];have au:o.dr≠g.x:=λz=>nr (by rw[z];exact ui)
 have aB:o.df≠g.x:=λz=>nf (by rw[z];exact ui)
 have ag:o.x≠o.dr:=λz=>by have:=hO.e;rw[z,aa] at this;cases this
 have ah:o.x≠o.df:=λz=>by have:=hO.e;rw[z,ae] at this;cases this
 have ak:↑(Aae st.run)=↑(Ky p.run):=by
  have:=BK hR;unfold Lw kP at this;simp![D.tup.injEq,UO] at this;have:=this.1;rw[hR.ra] at this;rw[List.append_cancel_left this]
 exists 0,g.x,dx,fs,1,e,f.meth _ (),g,st,1,hG,(by rw[hR.ra,ak];exact Lv hI),λv1 H1 s1 i1=>?_
 rw[BK hR] at i1
 exists 0,o.x,_,o.dx,_,0,s1 _ _ hO.e,T.qy,T.yI,AcG o,0,g.x,_,dx,fs,0,s1 _ _ e,T.qP,T.Yf,f.zT,o.dr,0,CQ.k (k:=V3 g.n) (s1 _ _ aa) ()
 have ac:Kp [o.dr,o.df] H (upd H1 o.dr (.dK (lm rk (V3 g.n) v1))):=(Kp.of s1).trans (Kp.updD (s1 _ _ aa) ui);generalize U:upd H1 o.dr (.dK (lm rk (V3 g.n) v1))=H2 at ac⊢;have al:H2 o.dr=u_ (.dK (lm rk (V3 g.n) v1)):=by rw[<-U];exact qg
 have e2:H2 g.x=u_ (.ins a.qJ dx fs):=by rw[<-U,qh au.symm];exact s1 _ _ e
 have am:H2 o.x=u_ (.ins a.qo o.dx (ofs o)):=by rw[<-U,qh ag];exact s1 _ _ hO.e
 have Z:H2 o.df=u_ (.dK fk):=by rw[<-U,qh af.symm];exact s1 _ _ ae
 have i2:Is H2 (kP p) v1:=i1.mono (by rw[<-U];exact Tk.updD (s1 _ _ aa))
 have l2:Is H2 (p.en.getD .non) ev:=by rw[<-hR.en];exact l.mono ac.tk
 obtain⟨kk,ee,ao⟩:∃kk ee,p.en.getD .non= .tup [.str kk,ee]:=by
  cases ap:p.en with
  |none=>rw[ap] at ad;cases ad
  |some d=>
   rcases hI.en d ap with⟨z,rfl⟩|⟨x,rfl,_⟩|⟨z,rfl⟩
   ·exact[_:0]
   ·exact[_:0]
   ·exact[_:0]
 exists 0,g.x,_,dx,fs,0,e2,T.qP,T.QZ,f.f_end,ev,kk,ee,1,(by rwa[<-ao]),λv2 H3 s3 i3=>?_
 rw[<-ao] at i3
 exists 0,o.x,_,o.dx,_,0,s3 _ _ am,T.qy,T.QB,La o,0,g.x,_,dx,fs,0,s3 _ _ e2,T.qP,T.Yf,f.zT,o.df,0,CQ.k (k:=V3 g.n) (s3 _ _ Z) ()
 have aq:Tk H3 (upd H3 o.df (.dK (lm fk (V3 g.n) v2))):=Tk.updD (s3 _ _ Z);have aw:Kp [o.dr,o.df] H (upd H3 o.df (.dK (lm fk (V3 g.n) v2))):=(ac.trans (Kp.of s3)).trans (Kp.updD (s3 _ _ Z) (uj _ ui))
 exists 0,o.x,o.dx,0,(by rw[qh ah];exact s3 _ _ am),ZP o _ (),0,_,0
 exact k v1 v2 _ aw (by rw[qh af];exact s3 _ _ al) (i2.mono (s3.tk.trans aq)) qg (i3.mono aq)
end
variable {v:V}
def oP:Vq ("looked_up":Str) [(("by_name":Str),v)]=none:=by rfl
def Abe (k:Str):inV (V.str k) [V.str "has",V.str "names"]=nw k:=by
 have h:=xT k ["has","names"];refine h.trans ?_;unfold nw;rw[<-Bool.decide_or,vd];simp
section
variable {C CM CO:o6}{H:Hp}{g:Gc}{s:Gs}{p:Gp}{Q:VK}{E:XK}
def MT (G:md C CM H g s)(R:nh g s p)(I:GI p)(O:p.en=U_)(U:y6 p=u_ m)(k:∀kd v H',ig H H'->nw kd=V1->Is H' (.tup [.str kd,.str m]) v->Q v H'):Xx C CM [.ref g.x] H Q E:=by
 erw[WC I O U,hn,h];exists g,s,1,G;rcases h with⟨h1,h2⟩|⟨rs,r,h1,h2⟩
 ·exact .inl ⟨R.none h1,m,by rw[R.mb,h2],λv H' s' i=>k _ v H' s' () i⟩
 ·erw[R.some h1,mc,Z,e2,e3];exact .inr ⟨mc,r,_,Z,h2,λv i=>k _ v H (ig.refl _) () i⟩
def IF (G:md C CM H g s)(R:nh g s p)(I:GI p)(O:p.en=U_)(U:y6 p=U_)(k:∀rs r kd z v,p.run=u_ (rs,r)->r.th= .tup [.str "asks",.tup [.str kd,.str z]]->nw kd=v_->isT (.str z)=v_->sT qs p=QX p (XZ qs kd z)->Is H (.tup [.str kd,.str z]) v->Q v H):Xx C CM [.ref g.x] H Q E:=by
 erw[XG (qs:=qs) I O U,rs,r,kd,z,h1,h2,h3,h4,h5];erw[R.some h1,mc,Z,e2,e3];exact⟨g,s,1,G,.inr ⟨mc,r,_,Z,h2,λv i=>k rs r kd z v h1 h2 h3 h4 h5 i⟩⟩
def C6 (G:md C CM H g s)(R:nh g s p)(I:GI p)(Z:p.en=U_){d:D}{v:V}(hv:Is H d v)(U:∀rs r,p.run=u_ (rs,r)->∃u q,r.th= .tup [.str "asks",.tup [.str u,q]]/\AN u d=v_)(aa:g.o≠g.x)(ho:∃dx fs,H g.o=u_ (.ins CO dx fs)/\fs.lookup ("runner":Str)=U_)
  (k:∀H' s',Gw g s.run H H'->md C CM H' g s'->nh g s' (QX p d)->(∀b∈plc g s',b∈plc g s∨H b=U_)->Q .non H'):XC C CM CO [.ref g.x,v] H Q E:=by
 refine⟨g,s,v,d,1,G,by rw[R.n];exact I.n,hv,aa,ho,?_⟩
 cases O:p.run with
 |none=>
  erw[I.no O Z,z,hz,_];have hr:=R.none O;refine .inl ⟨hr,z,by rw[R.mb,hz],λH' s' w G' b=>?_⟩
  obtain⟨r1,r2⟩:=Iu (p:=⟨p.n,p.mb,[.tup [.tup [.str "rule",p.mb],d]],U_,U_⟩) b ⟨R.n,R.mb,(by show _= [D.tup [.tup [.str "rule",p.mb],d]];rw[hz]),(by show s.run.map _=U_;rw[hr];rfl),R.own,(by show s.en= .non;rw[R.en,Z];rfl)⟩ rfl rfl
  refine k H' s' w G' ?_ λc hc=>?_
  ·have:QX p d=ml ⟨p.n,p.mb,[.tup [.tup [.str "rule",p.mb],d]],U_,U_⟩ d:=by
    unfold QX;rw[O];show ml ⟨p.n,p.mb,_,U_,p.en⟩ d=_;rw[Z]
   rwa[this]
  ·rcases r2 c hc with rfl|h
   ·exact .inl ui
   ·exact .inr h
 |some q=>
  erw[q,rs,r];erw[R.some O,mc,e1,e2,e3];erw[I.run rs r O,k1,k2,k3,k4];erw[U rs r O,u,q,h1,h2];subst e2;refine .inr ⟨mc,r,u,q,e1,e3,k1,k2,h1,h2,λH' w G'=>?_⟩;have ee:QX p d={p with run:=u_ (mc.rs,l8 mc.rs p.n r d),en:=mY (l8 mc.rs p.n r d)}:=by unfold QX;rw[O]
  refine k H' _ w G' ?_ ?_
  ·rw[ee,e3,R.n];unfold oQ mY;by_cases c:Qx (l8 mc.rs p.n r d).th=v_
   ·rw[A6 c,A6 c];exact⟨R.n,R.mb,R.ra,1,(λac r' z=>by cases z;exact e3),(by show s.en= .non;rw[R.en,Z];rfl)⟩
   ·rw[A4 c,A4 c];exact⟨R.n,R.mb,R.ra,1,(λac r' z=>by cases z;exact e3),1⟩
  ·intro b hb;left;unfold plc at hb⊢;rw[e1];unfold oQ at hb;split at hb<;>exact hb
end
nonrec def LO (o:Oc):oq o6:= [o.ls,o.du,o.dr,o.df]
structure Bs (CO CP:o6)(H0:Hp)(o:Oc)(qs:oq (Str×D)):Prop where
 oa:OAt CO CP H0 o qs
 ls:∃xs,H0 o.ls=u_ (.lst xs)
 du:∃xs,H0 o.du=u_ (.dK xs)
 dr:∃xs,H0 o.dr=u_ (.dK xs)
 df:∃xs,H0 o.df=u_ (.dK xs)
 nd:(LO o).Nodup
 q:Qw qs
section
variable {CO CP:o6}{H0 H H':Hp}{o:Oc}{qs:oq (Str×D)}
def Bs.at (b:Bs CO CP H0 o qs)(k:Kp (LO o) H0 H):OAt CO CP H o qs:=b.oa.kp k (by
 intro p O;simp![LO,uH,uI,uS] at O;rcases O with rfl|rfl|rfl|rfl
 ·exact .inl b.ls
 ·exact .inr (.inl b.du)
 ·exact .inr (.inl b.dr)
 ·exact .inr (.inl b.df))
def Bs.new (b:Bs CO CP H0 o qs){c:o6}(h:H0 c=U_):c≠o.x/\c≠o.ls/\c≠o.du/\c≠o.dr/\c≠o.df:=by
 erw[b.ls,_,h1];erw[b.du,_,h2];erw[b.dr,_,h3];erw[b.df,_,h4];exact⟨(qi b.oa.e h).symm,(qi h1 h).symm,(qi h2 h).symm,(qi h3 h).symm,(qi h4 h).symm⟩
def Bs.nlo (b:Bs CO CP H0 o qs){c:o6}(h:H0 c=U_):c∉LO o:=by
 erw[b.new h,_,h1,h2,h3,h4];simp![LO,uH,uI,uS,V0];exact⟨h1,h2,h3,h4⟩
def Aw (b:Bs CO CP H0 o qs)(k:Kp (LO o) H0 H)(h:∀c ob,H c=u_ ob->c∉o.df::L->H' c=u_ ob)(t:Tk H H')(O:∀c∈L,H0 c=U_):Kp (LO o) H0 H':=⟨λc ob e n=>h c ob (k.kept c ob e n) (λz=>by
 rcases Aa.mp z with rfl|z
 ·exact n (by simp[LO])
 ·rw[O c z] at e;cases e),k.tk.trans t⟩
end
section
variable {qs:oq (Str×D)}{n:Str}{p:Gp}{r don:oq (Str×Gp)}
def OQ (U:p.en=U_)(Z:y6 p=U_):Sy.nxt #[Y,(n,p)::r,don]=[(n,sT qs p)::r:don]:=by
 have hf:(SyP qs).fin p=false:=by show p.en.isSome=V1;rw[U];rfl
 have O:(SyP qs).want p=none:=Z;unfold Sy.nxt;simp only;rw[hf,A4 ub,O]
 rfl
def AaR (U:p.en=U_)(Z:y6 p=u_ m){a:ot D}(hy:Sy.yet #[Y,(n,p)::r,don] m=u_ (u_ a)):Sy.nxt #[Y,(n,p)::r,don]=[(n,QX p (a.getD .non))::r:don]:=by
 have hf:(SyP qs).fin p=false:=by show p.en.isSome=V1;rw[U];rfl
 have O:(SyP qs).want p=u_ m:=Z;unfold Sy.nxt;simp only;rw[hf,A4 ub,O];simp only;rw[hy]
 rfl
def OO (U:p.en=U_)(Z:y6 p=u_ m)(hy:Sy.yet #[Y,(n,p)::r,don] m=u_ U_):Sy.nxt #[Y,(n,p)::r,don]=[(n,Dc p m)::r:don]:=by
 have hf:(SyP qs).fin p=false:=by show p.en.isSome=V1;rw[U];rfl
 have O:(SyP qs).want p=u_ m:=Z;unfold Sy.nxt;simp only;rw[hf,A4 ub,O];simp only;rw[hy]
 rfl
def Lb (Z:p.en=U_)(hw:y6 p=u_ m)(U:Sy.yet #[Y,(n,p)::r,don] m=U_):∃p',g0D m (qB qs m)=u_ p'/\Sy.nxt #[Y,(n,p)::r,don]=[(m,p')::(n,p)::r:don]:=by
 have hf:(SyP qs).fin p=false:=by show p.en.isSome=V1;rw[Z];rfl
 have O:(SyP qs).want p=u_ m:=hw;erw[Sy.XB U,_,[p',e],_];exists p',e;unfold Sy.nxt;simp only;rw[hf,A4 ub,O];simp only;rw[U];simp only;rw[e]
def OP {d:D}(O:p.en=u_ d):Sy.nxt #[Y,(n,p)::r,don]=[r:don++ [(n,p)]]:=by
 have U:(SyP qs).fin p=true:=by show p.en.isSome=v_;rw[O];rfl
 unfold Sy.nxt;simp only;rw[U,A6 rfl]
 rfl
end
def Wz {d:D}(h:zg d):AN "thing" d=true:=by
 unfold AN;rcases h with rfl|h
 ·rfl
 ·cases hn:yt d with
  |true=>rfl
  |false=>
   rw[A4 ub,A6 h,A4 ()]
   rfl
structure Rnd {qs:oq (Str×D)}(CG CM:o6)(H0 H H1:Hp)(o:Oc)(S:Sy.Ss (SyP qs))(L0:oq o6)(g:Gc)(s1:Gs)(n:Str)(p1:Gp)(r:oq (Str×Gp))(fk1:oq (Key×V))(top:Nat):Prop where
 st:∃j,#[Y,(n,p1)::r,S.don]=Sy.nx S j
 len:↑fk1+Sy.mu #[Y,(n,p1)::r,S.don]<=top
 kp:∀b ob,H b=u_ ob->b∉o.df::L0->H1 b=u_ ob
 tk:Tk H H1
 df:H1 o.df=u_ (.dK fk1)
 fd:CV H1 S fk1
 go:md CG CM H1 g s1
 rel:nh g s1 p1
 pl:∀b∈plc g s1,b∈L0∨H b=U_/\H0 b=U_
 gi:SGI #[Y,(n,p1)::r,S.don]
inductive SZ (CO CP CG CM:Addr):Sp
 |mk (H0:Hp)(o:Oc)(qs:List (Str×D))(g:Gc)(s:Gs)(n:Str)(p:Gp)(r don:List (Str×Gp))(uk fk:List (Key×V))(top:Nat)(_:vs= [.ref o.x,.ref g.x])(_:Bs CO CP H0 o qs)(_:Kp (LO o) H0 H)(_:H o.du=u_ (.dK uk))(_:PL #[Y,(n,p)::r,don] uk)(_:(∀q∈don,q.2.en.isSome=v_))(_:top<=100000)(_:g.o=o.x)(_:(∀b∈plc g s,H0 b=U_))(_:Rnd CG CM H0 H H o #[Y,(n,p)::r,don] (plc g s) g s n p r fk top)(_:∀(v:V)(H':Hp)(s':Gs)(p':Gp)(fk':List (Key×V)),Rnd CG CM H0 H H' o #[Y,(n,p)::r,don] (plc g s) g s' n p' r fk' top->((v= .non/\p'.en.isSome=v_)∨∃m,v= .str m/\p'.en=U_/\y6 p'=u_ m/\Sy.yet #[Y,(n,p')::r,don] m=U_)->Q v H')
def Rnd.more {qs:oq (Str×D)}{CG CM CO CP:o6}{H0 H H1 H2 H3:Hp}{o:Oc}{S:Sy.Ss (SyP qs)}{L0:oq o6}{g:Gc}{s1 s3:Gs}{n:Str}{p1 p3:Gp}{r:oq (Str×Gp)}{fk1 U:oq (Key×V)}{top:Nat}(b:Bs CO CP H0 o qs)(k0:Kp (LO o) H0 H)(hL:∀b∈L0,H0 b=U_)(h:Rnd CG CM H0 H H1 o S L0 g s1 n p1 r fk1 top)(k2:Kp [o.df] H1 H2)(f2:H2 o.df=u_ (.dK U))(d2:CV H2 S U)(l2:↑U<=↑fk1+1)
  (ac:∀b ob,H2 b=u_ ob->b∉plc g s1->H3 b=u_ ob) (t3:Tk H2 H3) (G3:md CG CM H3 g s3) (R3:nh g s3 p3) (ae:∀b∈plc g s3,b∈plc g s1∨H2 b=U_) (e:Sy.nxt #[Y,(n,p1)::r,S.don]=[(n,p3)::r:S.don]):
  Rnd CG CM H0 H H3 o S L0 g s3 n p3 r U top/\Sy.mu #[Y,(n,p3)::r,S.don]<Sy.mu #[Y,(n,p1)::r,S.don]:=by
 have ad:=Sy.nxt_mu (ya qs) (S:=#[Y,(n,p1)::r,S.don]) (by intro z;cases z)
 rw[e] at ad;have af:∀b∈plc g s1,H0 b=none:=λb hb=>(h.pl b hb).elim (hL b) (·.2);have nf:o.df∉plc g s1:=λz=>(b.new (af _ z)).2.2.2.2 rfl;have ag:∀b ob,H1 b=u_ ob->b∉o.df::plc g s1->H3 b=u_ ob:=λc ob q z=>ac c ob (k2.kept c ob q (λy=>z (by rw[Ab.mp y];exact ui))) (λy=>z (uj _ y))
 refine⟨⟨?_,by have:=h.len;omega,λc ob q z=>?_,(h.tk.trans k2.tk).trans t3,ac _ _ f2 nf,d2.mono t3,G3,R3,λc Z=>?_,?_⟩,ad⟩
 ·erw[h.st,j,hj];exact⟨j+1,by show _=Sy.nxt (Sy.nx S j);rw[<-hj,e]⟩
 ·refine ag c ob (h.kp c ob q z) λy=>?_;rcases Aa.mp y with rfl|y
  ·exact z ui
  ·rcases h.pl c y with y|⟨y,_⟩
   ·exact z (uj _ y)
   ·rw[q] at y;cases y
 ·rcases ae c Z with Z|Z
  ·exact h.pl c Z
  ·have O:H1 c=none:=by
    cases hq:H1 c with
    |none=>rfl
    |some ob=>
     by_cases y:c=o.df
     ·rw[y,f2] at Z;cases Z
     ·rw[k2.kept c ob hq (λz=>y (Ab.mp z))] at Z;cases Z
   by_cases c0:c∈L0
   ·exact .inl c0
   ·right;have aa:H c=none:=by
     cases hq:H c with
     |none=>rfl
     |some ob=>
      by_cases y:c=o.df
      ·rw[y,h.df] at O;cases O
      ·rw[h.kp c ob hq (λz=>by rcases Aa.mp z with z|z;exact y z;exact c0 z)] at O;cases O
    exists aa;cases hq:H0 c with
    |none=>rfl
    |some ob=>
     by_cases y:c∈LO o
     ·have:=Aw b k0 h.kp h.tk hL;simp![LO,uH,uI,uS] at y;have keep:∀x,(∃xs,H0 x=u_ (.lst xs))∨(∃xs,H0 x=u_ (.dK xs))->H1 x≠none:=λx hx hn=>by
       rcases hx with⟨xs,hx⟩|⟨xs,hx⟩
       ·erw[this.tk.lst x xs hx,ys,hy];rw[hy] at hn;cases hn
       ·erw[this.tk.dct x xs hx,ys,hy];rw[hy] at hn;cases hn
      rcases y with rfl|rfl|rfl|rfl
      ·exact A8 O (keep _ (.inl b.ls))
      ·exact A8 O (keep _ (.inr b.du))
      ·exact A8 O (keep _ (.inr b.dr))
      ·exact A8 O (keep _ (.inr b.df))
     ·rw[k0.kept c ob hq y] at aa;cases aa
 ·have:=Eg b.q h.gi;rwa[e] at this
section
variable {P:oh}{w:oj}{K:o0}{mg:Str->ot o7}{base:og}{a:Ad}{g:Ga}
def AaP:#[C,11,a.jc,a.ja,["self","going"],(SZ a.qo a.qG a.qJ a.ql)]:=by
 have Wi:=#[D3,T];have JD:=#[KU,T,C];have ye:=#[oH,T];have Qa:=#[D2,T];exists 9,T.ll,yh
 erw[h,H0,o,qs,Z,st,n,p,r,don,uk,fk,top,rfl,hB,hK,aK,hU,ap,aX,aq,hL,h0,k];have hs:=uE;exists 3,%[#[Xr,#[qr,yl,#[qO,5,pv 1,rfl],qQ],%[#[qH,(2),yh.nd,#[QE,pv 1,T.qP,T.mj,Wi]],#[qM,#[qr,8,Q9,#[qF,qA,pv 2],#[qz,#v[qm,qm]],#[w]],%[#[qY,#[Qf,pv 1,T.qP,T.lc,JD,#v[#[Qf,#[qO,5,pv 0,rfl],T.QS,T.iG,ye,#v[pv 2]]]]]|Aj],qv],#[qH,(3),yh.nd,#[Qf,pv 0,T.qy,T.im,Qa,#v[#[qF,qA,pv 2]]]],#[qM,#[qr,yl,pv 3,qQ],%[|#[qq,#[qF,qA,pv 2]]],qv]|#[qM,#[qr,QW,#[qF,qA,pv 3],qm],%[|#[qY,#[Qf,pv 1,T.qP,T.lc,JD,#v[#[qF,qA,pv 3]]]]],%[|#[qM,#[qr,QW,#[qF,qA,pv 3],qm],%[|#[qY,#[Qf,pv 1,T.qP,T.lc,JD,#v[qQ]]]],%[|#[Qe,8,pv 1,#[qz,#v[qm,#[qF,qA,pv 2]]],rfl]]]]]]]|#[qq,qQ]]
 let J_:Nat->L2.St->Hp->Prop:=λmm σ H1=>∃(s1:Gs) (p1:Gp) (fk1:oq (Key×V)) (u3 u4:ot V),σ= [u_ (.ref o.x),u_ (.ref Z.x),u3,u4]/\mm=Sy.mu #[Y,(n,p1)::r,don]/\Rnd a.qJ a.ql H0 H H1 o #[Y,(n,p)::r,don] (plc Z st) Z s1 n p1 r fk1 top
 exists J_,⟨_,st,p,fk,U_,U_,1,1,h0⟩;rintro mm σ H1 ⟨s1,p1,fk1,u3,u4,rfl,rfl,O⟩;have aL:=Aw hB hK O.kp O.tk hL;have aa:=hB.at aL;have au:∀b∈plc Z s1,H0 b=none:=λb hb=>(O.pl b hb).elim (hL b) (·.2);erw[O.gi (n,p1) (.inl ui),hI,aZ];have hI:GI p1:=hI;have aw:H1 o.du=u_ (.dK uk):=O.kp _ _ aK (λz=>by
  rcases Aa.mp z with z|z
  ·have:=hB.nd;simp[LO] at this;exact this.2.1.2 z
  ·exact(hB.new (hL _ z)).2.2.1 rfl)
 erw[id O.go,dx,fs,mv,av,rv,ev,e,f,i,j,a1,l];have a2:↑fs<1000:=by have:=f.len;omega
 exists 0,Z.x,_,dx,fs,0,e,T.qP,T.QZ,f.f_end,1,0;cases he:p1.en with
 |some d=>
  have l':Is H1 d ev:=by have:=l;rwa[O.rel.en,he] at this
  have aM:d≠ .non:=by rcases hI.en d he with⟨z,rfl⟩|⟨x,rfl,_⟩|⟨z,rfl⟩<;>(intro z;cases z)
  refine iR (ug (jB l' aM)) ?_;exact k _ H1 s1 p1 fk1 O (.inl ⟨1,by rw[he];rfl⟩)
 |none=>
  have l':Is H1 .non ev:=by have:=l;rwa[O.rel.en,he] at this
  cases(show ev= .non from l')
  refine lN (uh rfl) ?_
  exists λσ' H'=>∃m',m'<Sy.mu #[Y,(n,p1)::r,don]/\J_ m' σ' H',λ_ _ h=>h;exists 8,B1,b1;have ax:Z.o≠Z.x:=by rw[aq];exact(hB.new (hL _ ui)).1.symm
  have ak:∀H2:Hp,(∀b ob,H1 b=u_ ob->b∉o.df::plc Z s1->H2 b=u_ ob)->∃dx fs,H2 Z.o=u_ (.ins a.qo dx fs)/\fs.lookup ("runner":Str)=none:=λH2 h2=>⟨_,_,(by rw[aq];exact h2 _ _ aa.e (λz=>by
   rcases Aa.mp z with z|z
   ·have:=aa.e;rw[z,O.df] at this;cases this
   ·exact(hB.new (au _ z)).1 rfl)),ZP o _ ()⟩
  cases hw:y6 p1 with
  |none=>
   exists 0,Z.x,dx,fs,1,e,f.meth _ ()
   refine IF (E:=E0) (qs:=qs) O.go O.rel hI he hw λrs rr kd z v ay al ac hz aA hv=>b1 _ _ ?_;exists 8,B2,b2;erw[id hv,q,ws,rfl,hq,w1,r1,rfl,[rfl,aN],w2,r2,rfl,[rfl,aB],h3];cases(show r2= [] from h3)
   exists 0,q,_,_,0,1,SqT.of hq,1,(sml rfl),λt ht=>?_;have s2:=qf ht (.tup [V.str "has",V.str "names"])
   exists t,0,.inr (SqT.of qg),1,1,0;refine lN ((Abe kd).trans ac) ?_;erw[id aa.p,aO,dp,op,a3,hx,hd,hk,a4];have a5:↑z<=300:=by
    have:=Ya hz;simp![lp,Q3,uG,vi] at this;exact this.1
   erw[W4 hB.q z ac,a6,aP];generalize a7:upd H1 t (.tup [V.str "has",V.str "names"])=H2 at s2⊢;have fin:∀(u:V) (H3:Hp),ig H2 H3->Is H3 (XZ qs kd z) u->XC a.qJ a.ql a.qo [.ref Z.x,u] H3 (λ_ H4=>∃m',m'<Sy.mu #[Y,(n,p1)::r,don]/\J_ m' [u_ (.ref o.x),u_ (.ref Z.x),u_ (.ref q),u4] H4) E0:=λu H3 s3 hu=>by
    have U:=s2.trans s3;refine C6 (O.go.same U) O.rel hI he hu (λaQ r' e'=>?_) ax (ak H3 λb ob h _=>U b ob h) λH4 s4 w4 G4 R4 aR=>?_
    ·rw[ay] at e';cases e';exact⟨kd,_,al,aP⟩
    ·rw[<-aA] at R4;have kq:∀b ob,H3 b=u_ ob->b∉plc Z s1->H4 b=u_ ob:=λb ob h n=>w4.kept b ob h (λy=>n (by rw[y];exact ui)) (λmc r' y=>by
      unfold plc at n;rw[y] at n;simp![P8,uH,uI,uS,V0] at n;exact[n.2.1:n.2.2.1:n.2.2.2])
     erw[O.more hB hK hL (Kp.of U) (U _ _ O.df) (O.fd.mono U.tk) (GF _) kq w4.tk G4 R4 aR (OQ he hw),m1,m2];exact⟨_,m2,s4,_,fk1,_,0,1,m1⟩
   exists 0,Z.x,dx,fs,1,s2 _ _ e,f.meth _ ()
   exists 0,o.x,_,o.dx,_,0,s2 _ _ aa.e,T.qy,T.Qd,OM o
   exists o.px,aO,0,s2 _ _ hx,oP,0,o.px,q,kd,z,qs,1,aa.p.same s2,hB.q,s2 _ _ hq,()
   have aC:kd="has"∨kd≠"has"/\kd="names":=by
    unfold nw at ac;by_cases c:kd="has"
    ·exact .inl c
    ·rw[ug c,HW] at ac;exact .inr [c:uq ac]
   rcases aC with c|⟨c',c⟩
   ·refine .inl [c:fin _ H2 (ig.refl _) ?_];unfold XZ;rw[A6 c];exact Qb (by split<;>decide)
   ·refine .inr [c:λu H3 s3 hu=>fin u H3 s3 ?_];unfold XZ;rwa[A4 c']
  |some m=>
   erw[WC hI he hw,a8,al]
   exists 0,Z.x,dx,fs,1,e,f.meth _ ()
   refine MT (E:=E0) O.go O.rel hI he hw λkd v H2 s2 ac hv=>b1 _ _ ?_;exists 8,B2,b2;erw[id hv,q,ws,rfl,hq,w1,r1,rfl,[rfl,aN],w2,r2,rfl,[rfl,aB],h3];cases(show r2= [] from h3)
   exists 0,q,_,_,0,1,SqT.of hq,1,(sml rfl),λt ht=>?_;have s3:=qf ht (.tup [V.str "has",V.str "names"])
   exists t,0,.inr (SqT.of qg),1,1,0;refine iR ((Abe kd).trans ac) (b2 _ _ ?_);exists 8,B3,b3;generalize upd H2 t (.tup [V.str "has",V.str "names"])=H3 at s3⊢;have U:=s2.trans s3;have aD:=s3 _ _ hq;have aE:SGI #[Y,(n,p1)::r,don]:=O.gi
   exists 0,o.x,o.dx,0,U _ _ aa.e,ZP o _ ()
   exists 0,q,_,_,0,1,SqT.of aD,1,o,m,qs,#[Y,(n,p1)::r,don],uk,fk1,1,[U _ _ aa.e:aa.p.same U],hB.q,aE,U _ _ aw,hU,U _ _ O.df,O.fd.mono U.tk,(by have:=O.len;omega),ap,λu H4 am k4 f4 d4 l4 aS y4=>?_
   have ad:Kp [o.df] H1 H4:=(Kp.of U).trans k4;have aF:H4 q=u_ (.tup [V.str kd,V.str m]):=k4.tk.tup _ _ aD;have aT:o.df∉plc Z s1:=λz=>(hB.new (au _ z)).2.2.2.2 rfl;have G4:md a.qJ a.ql H4 Z s1:=O.go.frame (λb hb ob h=>ad.kept b ob h (λz=>aT (by rwa[<-Ab.mp z]))) ad.tk
   erw[id G4,ao,ae,a9,bb,bc,bd,e4,af,i4,j4,aG,bf];refine b3 _ _ ?_;exists 8,B4,b4
   exists 0,1,0;unfold AO at y4;cases hy:Sy.yet #[Y,(n,p1)::r,don] m with
   |none=>
    rw[hy] at y4;cases(show u= .non from y4)
    refine lN (uh rfl) ⟨0,q,_,_,0,1,SqT.of aF,1,?_⟩;refine k _ H4 s1 p1 am ⟨O.st,(by rw[aS hy];exact O.len),λb ob h z=>ad.kept b ob (O.kp b ob h z) (λy=>z (by rw[Ab.mp y];exact ui)),O.tk.trans ad.tk,f4,d4,G4,O.rel,O.pl,O.gi⟩ (.inr ⟨m,1,he,hw,hy⟩)
   |some oa=>
    rw[hy] at y4;erw[y4,d,hd,ha,_];have sh:∃kk rr,d= .tup (.str kk::rr):=by
     cases oa with
     |none=>erw[ha,kk,rr,h,_];exact[kk:rr:h]
     |some x=>cases x with
      |none=>exact[_:_:ha]
      |some y=>exact[_:_:ha]
    erw[sh,kk,rr,rfl];erw[id hd,qa,wa,rfl,ag,w1,r1,rfl,[rfl,aY],h3];refine iR (ug (λz=>by cases z)) (b4 _ _ ?_)
    exists 0,qa,_,_,0,1,SqT.of ag,qC (j:=0) rfl,1,0;have fin:∀(dd:D) (u:V),Is H4 dd u->zg dd->Sy.nxt #[Y,(n,p1)::r,don]=⟨(n,QX p1 dd)::r,don⟩->XC a.qJ a.ql a.qo [.ref Z.x,u] H4 (λ_ H5=>∃m',m'<Sy.mu #[Y,(n,p1)::r,don]/\J_ m' [u_ (.ref o.x),u_ (.ref Z.x),u_ (.ref q),u_ (.ref qa)] H5) E0:=λdd u hu hok ah=>by
     refine C6 G4 O.rel hI he hu (λaQ r' e'=>?_) ax (ak H4 λb ob h n=>ad.kept b ob h (λz=>n (by rw[Ab.mp z];exact ui))) λH5 s5 w5 G5 R5 aU=>?_
     ·rcases al with⟨h1,_⟩|⟨rs,rr,h1,h2⟩
      ·rw[h1] at e';cases e'
      ·rw[h1] at e';cases e';exact⟨"thing",_,h2,Wz hok⟩
     ·have kq:∀b ob,H4 b=u_ ob->b∉plc Z s1->H5 b=u_ ob:=λb ob h n=>w5.kept b ob h (λy=>n (by rw[y];exact ui)) (λmc r' y=>by
       unfold plc at n;rw[y] at n;simp![P8,uH,uI,uS,V0] at n;exact[n.2.1:n.2.2.1:n.2.2.2])
      erw[O.more hB hK hL ad f4 d4 l4 kq w5.tk G5 R5 aU ah,m1,m2];exact⟨_,m2,s5,_,am,_,0,1,m1⟩
    cases oa with
    |some x=>
     have hok:=LN hB.q aE hy;have ah:=AaR he hw hy;cases x with
     |some y=>
      cases(show D.tup (.str kk::rr)= .tup [.str "value",y] from ha)
      erw[h3,w5,r5,rfl,h5,h6];cases(show r5= [] from h6)
      refine lN (uh rfl) ?_;exact⟨0,Z.x,ao,ae,1,e4,af.meth _ (),0,qa,_,_,0,1,SqT.of ag,1,fin y w5 h5 hok ah⟩
     |none=>
      cases(show D.tup (.str kk::rr)= .tup [.str "lack"] from ha)
      refine iR () ?_
      exists 0,qa,_,_,0,1,SqT.of ag,qC (j:=0) rfl,1,0;refine lN (uh rfl) ?_;exact⟨0,Z.x,ao,ae,1,e4,af.meth _ (),fin .non .non rfl hok ah⟩
    |none=>
     erw[ha,k2,r2,e5,c1,c2];cases e5;refine iR (ug (λz=>c1 (V.str.inj z))) ?_
     exists 0,qa,_,_,0,1,SqT.of ag,qC (j:=0) rfl,1,0;refine iR (ug (λz=>c2 (V.str.inj z))) ?_
     exists 0,q,_,_,0,1,SqT.of aF,1,(sml rfl),λt5 aH=>?_;have s5:=qf aH (.tup [V.str "stuck",V.str m]);have aI:↑ae<1000:=by have:=af.len;omega
     exists 0,Z.x,_,ao,ae,1,s5 _ _ e4,T.qP,T.QZ,aI;have aV:=Is.new (H:=H4) (ds:= [.str "stuck",.str m]) (p:=t5) ⟨_,0,Qb (),_,0,[1:aB],1⟩ aH
     erw[Wo (C:=a.qJ) (CM:=a.ql) (g:=Z) (s:={s1 with en:= .tup [.str "stuck",.str m]}) (s5 _ _ e4) (af.set_end (u:= .ref t5)) (i4.mono s5.tk) (j4.mono s5.tk) (aG.same s5) aV,g1,g2]
     have aJ:nh Z {s1 with en:= .tup [.str "stuck",.str m]} (Dc p1 m):=⟨O.rel.n,O.rel.mb,O.rel.ra,O.rel.run,O.rel.own,1⟩
     have aW:Kp [o.df] H1 (upd H4 t5 (.tup [V.str "stuck",V.str m])):=ad.trans (Kp.of s5);obtain⟨m1,m2⟩:=O.more hB hK hL aW (s5 _ _ f4) (d4.mono s5.tk) l4 (λb ob h n=>g2.kept b ob h (λy=>n (by rw[y];exact ui))) g2.tk g1 aJ (λb hb=> .inl hb) (OO he hw hy)
     exact⟨_,m2,_,_,am,_,0,1,m1⟩
nonrec def xg (CG CM:o6)(H:Hp)(ox:o6):oq (Gc×Gs)->oq (Str×Gp)->Prop
 | [],[]=>True
 |q::t,p::l=>md CG CM H q.1 q.2/\nh q.1 q.2 p.2/\q.1.o=ox/\xg CG CM H ox t l
 |_,_=>False
nonrec def NZ:oq (Gc×Gs)->oq o6
 | []=> []
 |q::t=>plc q.1 q.2++NZ t
nonrec def Sep:oq (Gc×Gs)->Prop
 | []=>True
 |q::t=>(∀b∈plc q.1 q.2,b∉NZ t)/\Sep t
def xg.frame {CG CM ox:o6}{H H':Hp}:∀{st:oq (Gc×Gs)}{l:oq (Str×Gp)},xg CG CM H ox st l->(∀b∈NZ st,∀ob,H b=u_ ob->H' b=u_ ob)->Tk H H'->xg CG CM H' ox st l
 | [],[],_,_,_=>trivial
 | [],_::_,h,_,_=>h.elim
 |_::_,[],h,_,_=>h.elim
 |q::t,p::l,⟨h1,h2,h3,h4⟩,hk,tk=>⟨h1.frame (λb O=>hk b (vh _ O)) tk,h2,h3,xg.frame h4 (λb O=>hk b (uP _ O)) tk⟩
def xg.there {CG CM ox:o6}{H:Hp}:∀{st:oq (Gc×Gs)}{l:oq (Str×Gp)},xg CG CM H ox st l->∀b∈NZ st,∃ob,H b=u_ ob
 | [],[],_=>λb O=>by cases O
 | [],_::_,h=>h.elim
 |_::_,[],h=>h.elim
 |q::t,p::l,⟨h1,h2,h3,h4⟩=>λb O=>by
  rcases Ac.mp O with O|O
  ·exact h1.there b O
  ·exact xg.there h4 b O
def xg.len {CG CM ox:o6}{H:Hp}:∀{st:oq (Gc×Gs)}{l:oq (Str×Gp)},xg CG CM H ox st l->↑st=↑l
 | [],[],_=>rfl
 | [],_::_,h=>h.elim
 |_::_,[],h=>h.elim
 |q::t,p::l,⟨h1,h2,h3,h4⟩=>by rw[uB,uB,xg.len h4]
def BA {Y:Sy}:∀l:oq (Str×Y.G),↑l<=Sy.lfts l
 | []=>uA _
 |(_,g)::r=>by
  have:=BA r;show ↑r+1<=Y.lft g+1+Sy.lfts r;omega
def AcI (O:Qw qs)(n:Str):Sy.mu (Sy.S0 (SyP qs) n)<=20000:=by
 have U:=O.2.2;have Z:∀S:Sy.Ss (SyP qs),↑(Sy.rest S)<=60:=λS=>by
  have h1:↑(Sy.rest S)<=(qs.map (·.1)).length:=Uq _ _;rw[u9] at h1;omega
 unfold Sy.mu;have h2:=Z (Sy.S0 (SyP qs) n);have h3:(SyP qs).M=302:=rfl;rw[h3];have h4:Sy.lfts (Sy.S0 (SyP qs) n).stk<=303:=by
  unfold Sy.S0;cases hg:(SyP qs).g0 n with
  |none=>exact uY _
  |some g=>
   have:=(ya qs).l0 n g hg;show(SyP qs).lft g+1+0<=303;have h3:(SyP qs).M=302:=rfl;omega
 omega
structure OI {qs:oq (Str×D)}(CG CM:o6)(H0 H:Hp)(o:Oc)(n0:Str)(S:Sy.Ss (SyP qs))(st:oq (Gc×Gs))(uk rk fk:oq (Key×V)):Prop where
 kp:Kp (LO o) H0 H
 nx:∃j,S=Sy.nx (Sy.S0 (SyP qs) n0) j
 ls:H o.ls=u_ (.lst (st.reverse.map λq=>V.ref q.1.x))
 du:H o.du=u_ (.dK uk)
 uo:PL S uk
 ul:↑uk+Sy.mu S<=20001
 dr:H o.dr=u_ (.dK rk)
 rks:rk.map (·.1)=S.don.map λp=>V3 p.1
 rv:L2.IsL H (S.don.map λp=>kP p.2) (rk.map (·.2))
 rl:↑S.don+Sy.mu S<=20001
 df:H o.df=u_ (.dK fk)
 fd:CV H S fk
 fl:↑fk+Sy.mu S<=20001
 stk:xg CG CM H o.x st S.stk
 new:∀b∈NZ st,H0 b=U_
 sep:Sep st
 gi:SGI S
 fin:∀q∈S.don,(Gp.en q.2).isSome=v_
 nd:(S.stk.map (·.1)++S.don.map (·.1)).Nodup
def PM (n:Str)(j:Nat):((Sy.nx (Sy.S0 (SyP qs) n) j).stk.map (·.1)++(Sy.nx (Sy.S0 (SyP qs) n) j).don.map (·.1)).Nodup:=by
 cases O:(SyP qs).g0 n with
 |some g=>exact(Sy.nx_ok (ya qs) (Sy.S0_ok O) j).nd
 |none=>
  have e:Sy.nx (Sy.S0 (SyP qs) n) j=⟨[],[]⟩:=by
   have U:Sy.S0 (SyP qs) n=⟨[],[]⟩:=by unfold Sy.S0;rw[O]
   rw[U]
   induction j with
   |zero=>rfl
   |succ j Z=>show Sy.nxt _=_;rw[Z];rfl
  rw[e];exact vC
inductive Nd (CO CP:Addr):Sp
 |mk (o:Oc)(qs:List (Str×D))(n:Str)(_:vs= [.ref o.x,.str n])(_:Bs CO CP H o qs)(_:H o.ls=u_ (.lst []))(_:H o.du=u_ (.dK []))(_:H o.dr=u_ (.dK []))(_:H o.df=u_ (.dK []))(_:∀(H':Hp)(rk uk fk:List (Key×V))(don:List (Str×Gp))(j:Nat),H' o.du=u_ (.dK uk)->PL #[Y,[],don] uk->H' o.df=u_ (.dK fk)->CV H' #[Y,[],don] fk->↑fk<=20001->SGI #[Y,[],don]->Kp (LO o) H H'->Sy.nx (Sy.S0 (SyP qs) n) j=⟨[],don⟩->H' o.dr=u_ (.dK rk)->(rk.map (·.1)=don.map λp=>V3 p.1)->L2.IsL H' (don.map λp=>kP p.2) (rk.map (·.2))->(∀p∈don,GI p.2/\p.2.en.isSome=v_)->↑don<=20001->Q .non H')
def kZ {α:Type}{xs:oq α}{x:α}:atI (xs++ [x]) (-1)=u_ x:=by
 unfold atI ixN;have O:↑(xs++ [x])=↑xs+1:=by simp
 rw[A4 (),A6 ()]
 show(xs++ [x])[(-1+(↑(xs++ [x]):Int)).toNat]? =u_ x;rw[show(-1+(↑(xs++ [x]):Int)).toNat=↑xs by omega]
 simp
def Mn {Y:Sy}(S:Sy.Ss Y)(i:Nat):∀j,Sy.nx S (i+j)=Sy.nx (Sy.nx S i) j
 |0=>rfl
 |j+1=>by show Sy.nxt (Sy.nx S (i+j))=Sy.nxt (Sy.nx (Sy.nx S i) j);rw[Mn S i j]
def AaU {qs:oq (Str×D)}(S:Sy.Ss (SyP qs)):∀j,Sy.mu (Sy.nx S j)<=Sy.mu S
 |0=>uA _
 |j+1=>by
  have h:=AaU S j;show Sy.mu (Sy.nxt (Sy.nx S j))<=_;by_cases c:(Sy.nx S j).stk= []
  ·have e:Sy.nxt (Sy.nx S j)=Sy.nx S j:=by unfold Sy.nxt;rw[c]
   rwa[e]
  ·have:=Sy.nxt_mu (ya qs) c;omega
def Oh:#[C,13,a.yz,a.yu,["self","name"],(Nd a.qo a.qG)]:=by
 have Qa:=#[D2,T];have Y8:=#[KZ,T,C];have Xo:=#[AaP,T,C];have xk:=#[D6,T];exists 9,T.iN,QJ
 erw[h,o,qs,n,rfl,hB,bF,bh,bG,bH,k];have hs:=uE;have hO:=hB.oa;exists 3,%[#[qM,#[qr,yl,#[Qf,pv 0,T.qy,T.im,Qa,#v[pv 1]],qQ],%[|#[qY,#[Qf,pv 0,T.qy,T.iI,Y8,#v[pv 1]]]],qv]|#[Xr,#[Bi,3,#[qO,5,pv 0,rfl],(λ_=>rfl)],%[#[qH,(2),QJ.nd,#[qF,7,Yn,#[qO,5,pv 0,rfl],#[Aay,6,LR,qk],(λ_ _=>rfl)]],#[qH,(3),QJ.nd,#[Qf,pv 0,T.qy,T.ll,Xo,#v[pv 2]]]|#[qM,#[qr,yl,pv 3,qQ],%[#[qY,#[Mg,9,vb,PySem.F.slot_list_pop,PySem.F.type_list_pop,Mr,#[qO,5,pv 0,rfl],_,_]],#[qY,#[KH,7,#[qO,5,pv 0,rfl],#[qO,5,pv 2,rfl],⟨1,1,1,1⟩]]|#[qY,#[Qf,pv 0,T.qy,T.iZ,xk,#v[pv 2]]]],%[|#[qY,#[Qf,pv 0,T.qy,T.iI,Y8,#v[pv 3]]]]]]]]
 have bI:=AcI hB.q n;exists 8,N,hN;have bJ:∀(H1:Hp) (S:Sy.Ss (SyP qs)) (st:oq (Gc×Gs)) (uk rk fk:oq (Key×V)),OI a.qJ a.ql H H1 o n S st uk rk fk->N [u_ (.ref o.x),u_ (.str n),U_,U_] H1:=by
  intro H1 S st uk rk fk h1;refine hN _ _ ?_
  let J_:Nat->L2.St->Hp->Prop:=λmm σ H2=>∃(S:Sy.Ss (SyP qs)) (st:oq (Gc×Gs)) (uk rk fk:oq (Key×V)) (u3 u4:ot V),σ= [u_ (.ref o.x),u_ (.str n),u3,u4]/\mm=Sy.mu S/\OI a.qJ a.ql H H2 o n S st uk rk fk
  exists J_,⟨_,S,st,uk,rk,fk,U_,U_,1,1,h1⟩;clear h1 bh bG bH bF;rintro mm σ H2 ⟨S,st,uk,rk,fk,u3,u4,rfl,rfl,Z⟩;have bo:=hB.at Z.kp
  exists 0,o.x,_,o.dx,_,0,bo.e,T.qy,T.Qz,K9 o,_,.inl [_:SqL.of Z.ls:1];obtain⟨(stk:oq (Str×Gp)),(don:oq (Str×Gp))⟩:=S;have ax:xg a.qJ a.ql H2 o.x st stk:=Z.stk;cases st with
  |nil=>
   cases stk with
   |cons p l=>exact ax.elim
   |nil=>
    refine iR rfl ?_;erw[Z.nx,j,hj];exact k H2 rk uk fk don j Z.du Z.uo Z.df Z.fd (by have:=Z.fl;omega) Z.gi Z.kp hj.symm Z.dr Z.rks Z.rv (λp hp=>[(Z.gi p (.inr hp)).1:Z.fin p hp]) (by have:=Z.rl;have e:↑(#[Y,[],don].don)=↑don:=rfl;omega)
  |cons q t=>
   erw[q,gc,gs];cases stk with
   |nil=>exact ax.elim
   |cons p l=>
    erw[p,O,p];erw[ax,hG,bp,bK,hT];have hG:md a.qJ a.ql H2 gc gs:=hG;have bp:nh gc gs p:=bp;have am:H2 o.ls=u_ (.lst ((t.reverse.map λq=>V.ref q.1.x)++ [V.ref gc.x])):=by
     have:=Z.ls;rwa[UV,um] at this
    refine lN (by rw[UV,um];show(!((F0 _ t.reverse)++ [V.ref gc.x]).isEmpty)=v_;simp) ?_
    exists λσ' H'=>∃m',m'<Sy.mu #[Y,(O,p)::l,don]/\J_ m' σ' H',λ_ _ h=>h;exists 8,B1,b1
    exists 0,o.x,_,o.dx,_,0,bo.e,T.qy,T.Qz,K9 o,0,o.ls,_,_,0,1,SqL.of am,kZ,b1 _ _ ?_;exists 8,B2,b2;have ao:∀b∈plc gc gs,H b=none:=λb U=>Z.new b (vh _ U);have ac:∀b∈NZ t,H b=none:=λb U=>Z.new b (uP _ U);have bL:∃j,#[Y,(O,p)::l,don]=Sy.nx #[Y,(O,p)::l,don] j:=[(0):1]
    exists 0,o.x,o.dx,0,bo.e,ZP o _ (),0,H,o,qs,gc,gs,O,p,l,don,uk,fk,(20001),1,hB,Z.kp,Z.du,Z.uo,Z.fin,(),bK,ao,⟨bL,Z.fl,λ_ _ h _=>h,Tk.refl _,Z.df,Z.fd,hG,bp,λb U=> .inl U,Z.gi⟩,λv H3 ak p3 ad hR hv=>?_
    have aV:Sy.mu #[Y,(O,p3)::l,don]<=Sy.mu #[Y,(O,p)::l,don]:=by
     erw[hR.st,j,hj];have hj:#[Y,(O,p3)::l,don]=Sy.nx #[Y,(O,p)::l,don] j:=hj;rw[hj];exact AaU _ _
    have bM:∃j,#[Y,(O,p3)::l,don]=Sy.nx (Sy.S0 (SyP qs) n) j:=by
     erw[hR.st,j,hj];erw[Z.nx,i,hi];have hj:#[Y,(O,p3)::l,don]=Sy.nx #[Y,(O,p)::l,don] j:=hj;exact⟨i+j,by rwa[Mn,<-hi]⟩
    have ap:Kp (LO o) H H3:=Aw hB Z.kp hR.kp hR.tk ao;have ay:=hB.at ap;have aq:∀b∈plc gc ak,H b=none:=λb U=>(hR.pl b U).elim (ao b) (·.2);have out:∀b,b∈LO o->b≠o.df->b∉o.df::plc gc gs:=λb U hn z=>by
     rcases Aa.mp z with z|z
     ·exact hn z
     ·exact hB.nlo (ao b z) U
    have b4:o.ls≠o.du/\o.ls≠o.dr/\o.ls≠o.df/\o.du≠o.dr/\o.du≠o.df/\o.dr≠o.df:=by
     have h:=hB.nd;simp![LO,U0,uH,uI,uS,V0,vC,and_true,UU] at h;exact⟨h.1.1,h.1.2.1,h.1.2.2,h.2.1.1,h.2.1.2,h.2.2⟩
    erw[b4,d1,d2,d3,d4,d5,d6];have af:=hR.kp _ _ am (out _ (by simp[LO]) d3)
    have aA:=hR.kp _ _ Z.du (out _ (by simp[LO]) d5)
    have aB:=hR.kp _ _ Z.dr (out _ (by simp[LO]) d6)
    have bq:xg a.qJ a.ql H3 o.x t l:=hT.frame (λb U ob h=>hR.kp b ob h (λz=>by
     rcases Aa.mp z with z|z
     ·exact(hB.new (ac b U)).2.2.2.2 z
     ·exact Z.sep.1 b z U)) hR.tk
    have bt:∀b∈plc gc ak,b∉NZ t:=λb U z=>by
     rcases hR.pl b U with U|⟨U,_⟩
     ·exact Z.sep.1 b U z
     ·erw[hT.there b z,ob,e];rw[e] at U;cases U
    have b5:GI p3:=(hR.gi (O,p3) (.inl ui)).1;have aW:p3.n=O:=(hR.gi (O,p3) (.inl ui)).2;have bN:=Z.ul;have bO:=hR.len;have b6:=Z.rl;have cp:↑don+Sy.mu #[Y,(O,p)::l,don]<=20001:=b6;have b7:↑ad+Sy.mu #[Y,(O,p3)::l,don]<=20001:=bO;have aC:=Sy.nxt_mu (ya qs) (S:=#[Y,(O,p3)::l,don]) (by intro z;cases z)
    have cq:↑rk=↑don:=by
     have:=A9 Vv Z.rks;rwa[u9,u9] at this
    have aD:H3 o.df=u_ (.dK ad):=hR.df;have aO:md a.qJ a.ql H3 gc ak:=hR.go;have ag:nh gc ak p3:=hR.rel;have aX:CV H3 #[Y,(O,p3)::l,don] ad:=hR.fd;have aY:SGI #[Y,(O,p3)::l,don]:=hR.gi;erw[bM,i3,aP];refine b2 _ _ ?_
    exists 0,1,0;rcases hv with⟨rfl,au⟩|⟨m,rfl,au,hw,hy⟩
    ·
     refine lN (uh rfl) ?_;exists 8,C1,c1;obtain⟨d,hd⟩:∃d,p3.en=u_ d:=by
      cases h:p3.en with
      |none=>rw[h] at au;cases au
      |some d=>exact[d:1]
     have ae:=OP (qs:=qs) (n:=O) (r:=l) (don:=don) hd
     exists 0,o.x,_,o.dx,_,0,ay.e,T.qy,T.Qz,K9 o,.inl [1:_:SqL.of af]
     exists o.ls,_,V.ref gc.x,1,1,af,by simp
     rw[List.dropLast_concat];have aa:Kp [o.ls,o.du] H3 (upd H3 o.ls (.lst (t.reverse.map λq=>V.ref q.1.x))):=⟨λb ob h n=>by rw[qh (λz=>n (by rw[z];exact ui))];exact h,mH.tk (p:=o.ls) (λb ob h n=>by rwa[qh n]) af qg⟩
     obtain⟨H4,aE⟩:∃H4,H4=upd H3 o.ls (.lst (t.reverse.map λq=>V.ref q.1.x)):=⟨0⟩;rw[<-aE] at aa⊢;refine c1 _ _ ?_;exists 8,C2,c2;have e4:H4 o.x=u_ (.ins a.qo o.dx (ofs o)):=by rw[aE,qh (λz=>by have:=ay.e;rw[z,af] at this;cases this)];exact ay.e
     have aF:H4 o.ls=u_ (.lst (t.reverse.map λq=>V.ref q.1.x)):=by rw[aE];exact qg
     have al:H4 o.du=u_ (.dK uk):=by rwa[aE,qh d1.symm]
     have bP:∀b,H b=U_->b≠o.ls:=λb U=>(hB.new U).2.1;have b8:md a.qJ a.ql H4 gc ak:=aO.frame (λb U ob h=>by rwa[aE,qh (bP b (aq b U))]) aa.tk
     erw[id b8,b9,ca,cr,cs,cu,cv,cb,f4,_];have aG:(iJ uk (V3 gc.n)).isSome=true:=by
      rw[ag.n,aW];exact(Z.uo O).trans (uh ui)
     obtain⟨uv,cc⟩:∃uv,iJ uk (V3 gc.n)=u_ uv:=by
      cases h:iJ uk (V3 gc.n) with
      |none=>rw[h] at aG;cases aG
      |some uv=>exact[uv:1]
     exists 0,o.x,_,o.dx,_,0,e4,T.qy,T.Qv,OK o,o.du,1,.inl [_:.inl al],0,gc.x,_,b9,ca,0,cb,T.qP,T.Yf,f4.zT,uk,V3 gc.n,uv,al,1,cc;have ah:Kp [o.ls,o.du] H3 (upd H4 o.du (.dK (Jp uk (V3 gc.n)))):=aa.trans (Kp.updD al (uj _ ui));obtain⟨H5,bu⟩:∃H5,H5=upd H4 o.du (.dK (Jp uk (V3 gc.n))):=⟨0⟩;rw[<-bu] at ah⊢;refine c2 _ _ ?_;have bQ:H5 o.du=u_ (.dK (Jp uk (V3 gc.n))):=by rw[bu];exact qg
     have bR:H5 o.ls=u_ (.lst (t.reverse.map λq=>V.ref q.1.x)):=by rwa[bu,qh d1]
     have aH:∀b,H b=U_->b∉ [o.ls,o.du]:=λb U z=>by
      simp![uH,uI,uS] at z;rcases z with z|z
      ·exact(hB.new U).2.1 z
      ·exact(hB.new U).2.2.1 z
     have cd:md a.qJ a.ql H5 gc ak:=aO.frame (λb U ob h=>ah.kept b ob h (aH b (aq b U))) ah.tk;have bS:H5 o.dr=u_ (.dK rk):=ah.kept _ _ aB (by simp![uH,uI,uS,V0];exact[d2.symm:d4.symm])
     have bT:H5 o.df=u_ (.dK ad):=ah.kept _ _ aD (by simp![uH,uI,uS,V0];exact[d3.symm:d5.symm])
     have aQ:∀b,b∉LO o->b∉ [o.ls,o.du]:=λb U z=>U (by simp![LO,uH,uI,uS] at z⊢;rcases z with z|z;exact .inl z;exact .inr (.inl z))
     have bw:Kp (LO o) H H5:=[λb ob h n=>ah.kept b ob (ap.kept b ob h n) (aQ b n):ap.tk.trans ah.tk];have bU:=hB.at bw
     exists 0,o.x,o.dx,0,bU.e,ZP o _ (),0,o,qs,gc,ak,p3,rk,ad,1,bU,cd,ag,b5,au,bS,(),bT,(),d6,λz=>(hB.new (aq _ z)).2.2.2.1 rfl,λz=>(hB.new (aq _ z)).2.2.2.2 rfl,λv1 v2 H6 aw aI i6 aZ j6=>?_
     have bV:∀b,b∉LO o->b∉ [o.dr,o.df]:=λb U z=>U (by simp![LO,uH,uI,uS] at z⊢;rcases z with z|z;exact .inr (.inr (.inl z));exact .inr (.inr (.inr z)))
     have ce:∀b,H b=U_->b∉ [o.dr,o.df]:=λb U=>bV b (hB.nlo U);have cf:Kp (LO o) H H6:=[λb ob h n=>aw.kept b ob (bw.kept b ob h n) (bV b n):bw.tk.trans aw.tk];have aJ:Tk H3 H6:=ah.tk.trans aw.tk;have bx:gc.n=O:=ag.n.trans aW;have aR:(#[Y,(O,p3)::l,don].stk.map (·.1)++#[Y,(O,p3)::l,don].don.map (·.1)).Nodup:=by
      rw[aP];exact PM n i3
     have bb:(O::(l.map (·.1)++don.map (·.1))).Nodup:=aR;have aK:O∉don.map (·.1):=λz=>(List.nodup_cons.mp bb).1 (uP _ z);have bA:O∉l.map (·.1):=λz=>(List.nodup_cons.mp bb).1 (vh _ z);have cg:iJ rk (V3 O)=none:=by
      cases h:iJ rk (V3 O) with
      |none=>rfl
      |some v=>
       have h1:=C0 h;rw[Z.rks] at h1;erw[Ae.mp h1,q,hq,e];injection e with e
       exact A8 (Ae.mpr [q:hq:e]) aK
     rw[bx] at aI aZ;rw[Xl v1 cg] at aI;have bW:↑uk+Sy.mu #[Y,(O,p)::l,don]<=20001:=bN;have cw:=BP uk (V3 gc.n:Key);have ch:=QY ad (V3 O:Key) v2;have a1:PL #[Y,l,don++ [(O,p3)]] (Jp uk (V3 gc.n)):=by
      intro m';rw[Z9];by_cases c:m'=O
      ·rw[A6 (by rw[c,bx]),c]
       exact(ug bA).symm
      ·rw[A4 (by rw[bx];exact λz=>c (Ue z))]
       refine(Z.uo m').trans ?_;rw[vd];exact⟨λz=>by rcases Aa.mp z with z|z;exact A8 z c;exact z,λz=>uj _ z⟩
     have a2:(rk++ [((V3 O:Key),v1)]).map (·.1)=(don++ [(O,p3)]).map λq:Str×Gp=>(V3 q.1:Key):=by
      rw[um,um];have:=Z.rks;rw[this]
      rfl
     have a3:L2.IsL H6 ((don++ [(O,p3)]).map λq:Str×Gp=>kP q.2) ((rk++ [((V3 O:Key),v1)]).map (·.2)):=by
      rw[um,um];exact((Z.rv.mono (hR.tk.trans aJ))).append (L2.IsL.one i6)
     have a4:↑(don++ [(O,p3)])=↑don+1:=by rw[uJ];rfl
     have a5:∀(m':Str) (g':Gp),g0D m' (qB qs m')=u_ g'->(∀g2:Gp,Sy.YX (Y:=SyP qs) (don++ [(O,p3)]) m'=u_ g2->∃v,iJ (lm ad (V3 O) v2) (V3 m')=u_ v/\Is H6 (yn (g2.en.getD .non)) v)/\(Sy.YX (Y:=SyP qs) (don++ [(O,p3)]) m'=U_->iJ (lm ad (V3 O) v2) (V3 m')=U_):=by
      intro m' g' ci;rw[XA];by_cases c:m'=O
      ·have aL:Sy.YX (Y:=SyP qs) (don++ [(O,p3)]) m'=(u_ p3:ot Gp):=by
        have e1:(don.find? λq=>decide (q.1=m'))=none:=List.find?_eq_none.mpr λq hq e=>aK (by rw[<-c,<-uq e];exact List.mem_map_of_mem hq)
        have e2:((don++ [(O,p3)]).find? λq:Str×Gp=>decide (q.1=m'))=u_ (O,p3):=by rw[Re,e1,c];simp
        show((don++ [(O,p3)]).find? λq:Str×Gp=>decide (q.1=m')).map (·.2)=u_ p3;rw[e2]
        rfl
       exists λg2 e2=>?_,λz=>?_
       ·have e3:=aL.symm.trans e2;cases e3;rw[A6 (by rw[c])]
        exact[v2:1:j6]
       ·have e3:=aL.symm.trans z;cases e3
      ·have aL:Sy.YX (Y:=SyP qs) (don++ [(O,p3)]) m'=Sy.YX (Y:=SyP qs) don m':=by
        have e2:((don++ [(O,p3)]).find? λq:Str×Gp=>decide (q.1=m'))=don.find? λq:Str×Gp=>decide (q.1=m'):=by
         rw[Re];have:([(O,p3)].find? λq:Str×Gp=>decide (q.1=m'))=none:=by simp;exact λz=>c z.symm
         rw[this,Option.or_none]
        show((don++ [(O,p3)]).find? λq:Str×Gp=>decide (q.1=m')).map (·.2)=(don.find? λq:Str×Gp=>decide (q.1=m')).map (·.2);rw[e2]
       rw[A4 (λz=>c (Ue z))];have aM:(∀g2:Gp,Sy.YX (Y:=SyP qs) don m'=u_ g2->∃v,iJ ad (V3 m')=u_ v/\Is H6 (yn (g2.en.getD .non)) v)/\(Sy.YX (Y:=SyP qs) don m'=U_->iJ ad (V3 m')=U_):=(aX.mono aJ) m' g' ci;exact[λg2 e2=>aM.1 g2 (aL.symm.trans e2):λz=>aM.2 (aL.symm.trans z)]
     have a6:xg a.qJ a.ql H6 o.x t l:=bq.frame (λb U ob h=>aw.kept b ob (ah.kept b ob h (aH b (ac b U))) (ce b (ac b U))) aJ;have a7:∀q∈don++ [(O,p3)],q.2.en.isSome=true:=by
      intro q hq;rcases Ac.mp hq with hq|hq
      ·exact Z.fin q hq
      ·cases Ab.mp hq;exact au
     have eN:Sy.nx (Sy.S0 (SyP qs) n) (i3+1)=Sy.nxt #[Y,(O,p3)::l,don]:=by show Sy.nxt (Sy.nx _ i3)=_;rw[<-aP]
     have a8:=PM (qs:=qs) n (i3+1);rw[eN] at a8;have a9:=Eg hB.q aY;have bB:OI a.qJ a.ql H H6 o n (Sy.nxt #[Y,(O,p3)::l,don]) t (Jp uk (V3 gc.n)) (rk++ [(V3 O,v1)]) (lm ad (V3 O) v2):=by
      exists cf,[i3+1:eN.symm],aw.kept _ _ bR (by simp![uH,uI,uS,V0];exact[d2:d3]),aw.kept _ _ bQ (by simp![uH,uI,uS,V0];exact[d4:d5]),?_,(),aI,?_,?_,?_,aZ,?_,(),?_,ac,Z.sep.2,a9,?_,a8
      ·rwa[ae]
      ·rwa[ae]
      ·rwa[ae]
      ·have e:(Sy.nxt #[Y,(O,p3)::l,don]).don.length=↑don+1:=by rwa[ae]
       omega
      ·rwa[ae]
      ·rwa[ae]
      ·rwa[ae]
     exact⟨_,Vf aC aV,_,t,_,_,_,_,0,1,bB⟩
    ·
     refine iR (ug (λz=>by cases z)) ?_
     erw[Lb (qs:=qs) au hw hy,p',cj,ae];rw[ae] at aC;erw[Sy.XB hy,y1,_,y3];have bX:=BA (Y:=SyP qs) ((O,p3)::l);have aS:↑((O,p3)::l)<=Sy.mu #[Y,(O,p3)::l,don]:=vg bX (UY _ _);have cx:↑t=↑l:=hT.len;have bW:↑uk+Sy.mu #[Y,(O,p)::l,don]<=20001:=bN
     exists 0,o.x,o.dx,0,ay.e,ZP o _ (),0,o,m,qs,_,uk,p',1,ay,hB.q,af,?_,aA,(),cj,λgn sn H4 aa aF al bC bD bE aT=>?_
     ·rw[uJ,u9,List.length_reverse,Up];rw[uB] at aS;omega
     have aQ:∀b,b∉LO o->b∉ [o.ls,o.du]:=λb U z=>U (by simp![LO,uH,uI,uS] at z⊢;rcases z with z|z;exact .inl z;exact .inr (.inl z))
     have ck:Kp (LO o) H H4:=[λb ob h n=>aa.kept b ob (ap.kept b ob h n) (aQ b n):ap.tk.trans aa.tk];have aH:∀b,H b=U_->b∉ [o.ls,o.du]:=λb U=>aQ b (hB.nlo U);have aN:∀b∈plc gn sn,H b=none:=λb U=>by
      have h3:=aT b U;cases h:H b with
      |none=>rfl
      |some ob=>
       by_cases c:b∈LO o
       ·simp![LO,uH,uI,uS] at c;rcases c with rfl|rfl|rfl|rfl
        ·rw[af] at h3;cases h3
        ·rw[aA] at h3;cases h3
        ·rw[aB] at h3;cases h3
        ·rw[aD] at h3;cases h3
       ·rw[ap.kept b ob h c] at h3;cases h3
     exists _,Vf aC aV,[(m,p')::(O,p3)::l:don],(gn,sn)::(gc,ak)::t,lm uk (V3 m) (.bl v_),rk,ad,_,0,1;have ch:=QY uk (V3 m:Key) (.bl v_)
     exists 5
     refine⟨ck,⟨i3+1,by show _=Sy.nxt (Sy.nx _ i3);rw[<-aP,ae]⟩,?_,al,?_,(),aa.kept _ _ aB (by simp![uH,uI,uS,V0];exact[d2.symm:d4.symm]),Z.rks,Z.rv.mono (hR.tk.trans aa.tk),?_,aa.kept _ _ aD (by simp![uH,uI,uS,V0];exact[d3.symm:d5.symm]),?_,(),?_,?_,?_,?_,Z.fin,?_⟩
     ·rw[aF,UV,UV,um,um]
      rfl
     ·intro m';rw[XA];by_cases c:m'=m
      ·rw[A6 (by rw[c])]
       exact(uh (by rw[c];exact ui)).symm
      ·rw[A4 (λz=>c (Ue z))];refine(Z.uo m').trans ?_;rw[vd];exact⟨λz=>uj _ z,λz=>by rcases Aa.mp z with z|z;exact A8 z c;exact z⟩
     ·show ↑don+_<=_;omega
     ·exact aX.mono aa.tk
     ·exact⟨bC,bD,bE,aO.frame (λb U ob h=>aa.kept b ob h (aH b (aq b U))) aa.tk,ag,bK,bq.frame (λb U ob h=>aa.kept b ob h (aH b (ac b U))) aa.tk⟩
     ·intro b U;rcases Ac.mp U with U|U
      ·exact aN b U
      ·rcases Ac.mp U with U|U
       ·exact aq b U
       ·exact ac b U
     ·exists λb U z=>?_,bt,Z.sep.2;have h3:=aT b U;rcases Ac.mp z with z|z
      ·erw[aO.there b z,ob,e];rw[e] at h3;cases h3
      ·erw[bq.there b z,ob,e];rw[e] at h3;cases h3
     ·have:=Eg hB.q aY;rwa[ae] at this
     ·have:=PM (qs:=qs) n (i3+1);have e:Sy.nx (Sy.S0 (SyP qs) n) (i3+1)=⟨(m,p')::(O,p3)::l,don⟩:=by show Sy.nxt (Sy.nx _ i3)=_;rw[<-aP,ae]
      rwa[e] at this
 have u0:PL #[Y,[],[]] []:=λm=>by rw[Ke];rfl
 have f0:CV H #[Y,[],[]] []:=λm g hg=>⟨(λg' e=>by cases e),λ_=>Ke⟩
 have g0:SGI #[Y,[],[]]:=λp hp=>by rcases hp with hp|hp<;>cases hp
 exists 0,o.x,o.dx,0,hO.e,ZP o _ (),0,o,n,qs,#[Y,[],[]],[],[],1,hO,hB.q,g0,bh,u0,bH,f0,(),(λ_ z=>by cases z),λv H1 fk1 k1 f1 d1 l1 bY y1=>?_
 have aR:=hB.nd;simp![LO,U0,uH,uI,uS,V0,vC,and_true,UU] at aR;erw[aR,[n1,n2,n3],[n4,n5],n6];have nin:∀b,b≠o.df->b∉ [o.df]:=λb U z=>U (Ab.mp z);have aU:Kp (LO o) H H1:=⟨λb ob h z=>k1.kept b ob h (λy=>z (by rw[Ab.mp y];simp[LO])),k1.tk⟩
 have bZ:=hB.at aU;have bc:=k1.kept _ _ bF (nin _ n3);have bd:=k1.kept _ _ bh (nin _ n5);have bf:=k1.kept _ _ bG (nin _ n6)
 exists 1,0;unfold AO at y1;cases hg:(SyP qs).g0 n with
 |none=>
  have ey:Sy.yet #[Y,[],[]] n=u_ (u_ ((SyP qs).once n)):=by
   unfold Sy.yet;rw[A4 (by intro z;cases z),hg]
  rw[ey] at y1;erw[y1,d,i1,i2,_];have cm:d≠ .non:=by
   cases h:(SyP qs).once n with
   |none=>rw[h] at i2;intro z;rw[z] at i2;cases i2
   |some x=>rw[h] at i2;intro z;rw[z] at i2;cases i2
  refine iR (ug (jB i1 cm)) ?_;have e0:Sy.S0 (SyP qs) n=⟨[],[]⟩:=by unfold Sy.S0;rw[hg]
  rw[e0] at bI;have l1:↑fk1<=0+1:=l1;exact bJ H1 [[]:[]] [] [] [] fk1 ⟨aU,[(0):e0.symm],bc,bd,u0,(by show 0+_<=_;omega),bf,1,1,(by show 0+_<=_;omega),f1,d1,(),trivial,(λb U=>by cases U),trivial,g0,(λq hq=>by cases hq),vC⟩
 |some p=>
  have ey:Sy.yet #[Y,[],[]] n=none:=by
   unfold Sy.yet;rw[A4 (by intro z;cases z),hg]
   rfl
  rw[ey] at y1;cases(show v= .non from y1)
  refine lN (uh rfl) ?_;have e0:Sy.S0 (SyP qs) n=⟨[(n,p)],[]⟩:=by unfold Sy.S0;rw[hg]
  rw[e0] at bI;have bY:↑fk1=0:=bY ey
  exists 0,o.x,o.dx,0,bZ.e,ZP o _ (),0,o,n,qs,[],[],p,1,bZ,hB.q,bc,(),bd,(),hg,λgn sn H2 k2 am b3 bC bD bE aT=>?_
  have cn:Kp (LO o) H H2:=⟨λb ob h z=>k2.kept b ob (aU.kept b ob h z) (λy=>z (by simp![LO,uH,uI,uS] at y⊢;rcases y with y|y;exact .inl y;exact .inr (.inl y))),aU.tk.trans k2.tk⟩
  have aN:∀b∈plc gn sn,H b=none:=λb U=>by
   have h3:=aT b U;cases h:H b with
   |none=>rfl
   |some ob=>
    by_cases c:b=o.df
    ·rw[c,f1] at h3;cases h3
    ·rw[k1.kept b ob h (nin b c)] at h3;cases h3
  have bg:∀b,b≠o.ls->b≠o.du->b∉ [o.ls,o.du]:=λb h1 h2 z=>by
   simp![uH,uI,uS] at z;rcases z with z|z
   ·exact h1 z
   ·exact h2 z
  refine bJ H2 [[(n,p)]:[]] [(gn,sn)] (lm [] (V3 n) (.bl v_)) [] fk1 ⟨cn,[(0):e0.symm],am,b3,?_,?_,k2.kept _ _ bf (bg _ (vX n2) (vX n4)),1,1,(by show 0+_<=_;omega),k2.kept _ _ f1 (bg _ (vX n3) (vX n5)),d1.mono k2.tk,(),⟨bC,bD,bE,trivial⟩,?_,⟨λb U z=>(by cases z),trivial⟩,?_,(λq hq=>by cases hq),?_⟩
  ·intro m';rw[XA];by_cases c:m'=n
   ·rw[A6 (by rw[c])]
    exact(uh (by rw[c];exact ui)).symm
   ·rw[A4 (λz=>c (Ue z)),Ke];exact(ug (λz=>c (Ab.mp z))).symm
  ·have:=QY [] (V3 n:Key) (.bl v_);rw[UJ] at this;omega
  ·intro b U;rcases Ac.mp U with U|U
   ·exact aN b U
   ·cases U
  ·intro q hq;rcases hq with hq|hq
   ·cases Ab.mp hq;exact CC hB.q hg
   ·cases hq
  ·exact List.nodup_cons.mpr ⟨(λz=>by cases z),vC⟩
end
namespace Sy
variable {Y:Sy}
end Sy
section
variable {qs qs':oq (Str×D)}
noncomputable abbrev FP (qs:oq (Str×D)):Sy.Orc:=Sy.F (SyP qs)
noncomputable abbrev itP (qs:oq (Str×D)) (k:Nat) (g:Gp):Gp:=Sy.it (SyP qs) (FP qs) k g
def sV (g:Gp):Sy.step (SyP qs) (FP qs) g=if g.en.isSome=v_ then g else match y6 g with
  |none=>sT qs g
  |some m=>match FP qs m with
   |some a=>QX g (a.getD .non)
   |none=>Dc g m:=rfl
nonrec def JW (p:Gp):oq D:=p.ra++runPG' p.run
where runPG':ot (oq Rw×Rn)->oq D
 |none=> []
 |some (_,r)=>r.gs
nonrec def GA (g:Gp):Prop:=g.run=U_->g.en=U_->g.ra= []
def wl {rs:oq Rw}{own:Str}{gs:oq D}:∀(f:Nat) (B:Str->D) (p:Int) (n:Nat),(mn rs own gs f B p n).gs=gs
 |0,B,p,n=>rfl
 |f+1,B,p,n=>by
  unfold mn;by_cases c:p>↑rs
  ·rw[A6 c]
  ·rw[A4 c];cases U:me own (Yp rs p) B p with
   |go O p'=>exact wl f O p' (n+1)
   |stop e=>rfl
def AL {r:Rn}{a:D}:(l8 rs own r a).gs=r.gs++ [.tup [X4 r.th,a]]:=by
 unfold l8;split
 ·rfl
 ·exact wl _ _ _ _
def BV (h:g.run=U_)(d:D):JW (ml g d)=g.ra/\GA (ml g d):=by
 unfold ml;split
 ·exists ?_,λ_ z=>by cases z
  show g.ra++JW.runPG' g.run=g.ra;rw[h];exact uX _
 ·cases hd:QK d with
  |none=>
   exists ?_,λ_ z=>by cases z
   show g.ra++JW.runPG' g.run=g.ra;rw[h];exact uX _
  |some rs=>
   exists ?_,λz=>by cases z
   show g.ra++(R0 rs g.n).gs=g.ra;rw[show(R0 rs g.n).gs= [] from wl _ _ _ _]
   exact uX _
def sL (ha:GA g)(Z:g.en=U_)(d:D):JW (QX g d)=JW g++ [.tup [jO g,d]]/\GA (QX g d):=by
 unfold QX;cases O:g.run with
 |none=>
  have U:=ha O Z;erw[BV (g:=⟨g.n,g.mb,[.tup [.tup [.str "rule",g.mb],d]],U_,g.en⟩) rfl d,h1,h2];exists h1.trans ?_,h2;have e1:JW g= []:=by unfold JW;rw[U,O];rfl
  have e2:jO g= .tup [.str "rule",g.mb]:=by unfold jO;rw[O]
  rw[e1,e2]
  rfl
 |some p=>
  erw[p,rs,r];exists ?_,λz=>by cases z
  show g.ra++(l8 rs g.n r d).gs=JW g++_;have e2:jO g=X4 r.th:=by unfold jO;rw[O]
  have e3:JW g=g.ra++r.gs:=by unfold JW;rw[O];rfl
  rw[AL,e2,e3,vB]
def Lu {d:D}(h:g0D m d=u_ g):GA g/\JW g= []:=by
 unfold g0D at h;split at h
 ·split at h
  ·cases h
  ·split at h
   ·cases h;exact[λ_ _=>rfl:1]
   ·cases h;erw[BV (g:=⟨m,.non,[],U_,U_⟩) rfl _,h1,h2];exact[h2:h1]
 ·cases h
def D0 (U:Qw qs)(O:g0D m (qB qs m)=U_):zg ((oF (qB qs m)).getD .non):=by
 by_cases hm:m∈qs.map (·.1)
 ·erw[J5 U hm,hn,k,e,hd,h1,h2];rw[hd] at O⊢;unfold g0D at O;simp only at O;by_cases c:k="leaf"
  ·exact .inr (h2 (by rw[c];decide+kernel)).2
  ·rw[A4 c] at O;split at O<;>cases O
 ·rw[Y7 hm];exact .inl rfl
def kD (Z:Qw qs){f:Sy.Orc}(hf:∀m a,f m=u_ a->zg (a.getD .non))(h:GI g)(ha:GA g):GI (Sy.step (SyP qs) f g)/\GA (Sy.step (SyP qs) f g):=by
 have e:Sy.step (SyP qs) f g=if g.en.isSome=v_ then g else match y6 g with
  |none=>sT qs g
  |some m=>match f m with
   |some a=>QX g (a.getD .non)
   |none=>Dc g m:=rfl
 rw[e];cases O:g.en with
 |some d=>exact[h:ha]
 |none=>
  simp![UG,A4 ub];cases U:y6 g with
  |none=>
   erw[XG (qs:=qs) h O U,rs,r,k,z,_,_,hk,_,e];exists MC Z h O U;show GA (sT qs g);rw[e];exact(sL ha O _).2
  |some m=>
   simp only;cases hm:f m with
   |some a=>exact[AB h O (hf m a hm):(sL ha O _).2]
   |none=>exact⟨MB h m,λ_ z=>by cases z⟩
def O5 (O:Qw qs){f:Sy.Orc}(U:∀m a,f m=u_ a->zg (a.getD .non)):∀(k:Nat) {g:Gp},GI g->GA g->GI (Sy.it (SyP qs) f k g)/\GA (Sy.it (SyP qs) f k g)
 |0,g,h,ha=>[h:ha]
 |k+1,g,h,ha=>O5 O U k (kD O U h ha).1 (kD O U h ha).2
def AbY (U:Qw qs):∀(k:Nat) (m:Str) (a:ot D),Sy.Fh (SyP qs) k m=u_ a->zg (a.getD .non)
 |0,m,a,h=>by
  cases O:(SyP qs).g0 m with
  |none=>rw[Sy.ZZ O] at h;cases h;exact D0 U O
  |some g=>rw[Sy.Kr O] at h;cases h
 |k+1,m,a,h=>by
  cases O:(SyP qs).g0 m with
  |none=>rw[Sy.ZZ O] at h;cases h;exact D0 U O
  |some g=>
   rw[Sy.Fh_run O] at h;have Z:=O5 U (AbY U k) 302 (CC U O).1 (Lu O).1;cases hs:(SyP qs).said (Sy.it (SyP qs) (Sy.Fh (SyP qs) k) (SyP qs).M g) with
   |none=>rw[hs] at h;cases h
   |some v=>
    rw[hs] at h;cases h;exact .inr (DB Z.1 hs)
def Ab7 (O:Qw qs)(m:Str)(a:ot D)(h:FP qs m=u_ a):zg (a.getD .non):=by
 erw[(Sy.F_iff (ya qs)).mp h,k,h];exact AbY O k m a h
def Abb (O:Qw qs)(U:g0D m (qB qs m)=u_ g)(k:Nat):GI (itP qs k g)/\GA (itP qs k g):=O5 O (Ab7 O) k (CC O U).1 (Lu U).1
end
nonrec def Dn (qs:oq (Str×D))(n:Str)(don:oq (Str×Gp)):Prop:=∃j,Sy.nx (Sy.S0 (SyP qs) n) j=[[]:don]
section
variable {qs:oq (Str×D)}{n:Str}{don don':oq (Str×Gp)}
def Abq (h:Dn qs n don)(k:Dn qs n don'):don=don':=by
 erw[h,i,hi];erw[k,j,O];have e:=Sy.nx_one (S:=Sy.S0 (SyP qs) n) (k:=i) (j:=j) (by rw[hi]) (by rw[O])
 rw[hi,O] at e;exact A9 Sy.Ss.don e
def Ic (O:g0D n (qB qs n)=U_)(h:Dn qs n don):don= []:=by
 have U:Sy.S0 (SyP qs) n=⟨[],[]⟩:=by unfold Sy.S0;rw[show(SyP qs).g0 n=U_ from O]
 exact Abq h [(0):U]
def Po (O:g0D n (qB qs n)=u_ g)(h:Dn qs n don):Sy.SOk (Y:=SyP qs) n [[]:don]:=by
 erw[h,j,U];rw[<-U];exact Sy.nx_ok (ya qs) (Sy.S0_ok O) j
def Pq (O:g0D n (qB qs n)=u_ g)(h:Dn qs n don):(don.map (·.1)).getLast? =u_ n:=by
 rcases(Po O h).bot with b|⟨_,b⟩
 ·cases b
 ·exact b
def MK (h:Dn qs n don){p:Str×Gp}(O:p∈don):∃s,g0D p.1 (qB qs p.1)=u_ s/\p.2=Sy.it (SyP qs) (Sy.F (SyP qs)) 302 s:=by
 cases U:g0D n (qB qs n) with
 |none=>rw[Ic U h] at O;cases O
 |some g=>exact(Po U h).don p O
def Abr (h:Dn qs n don):(don.map (·.1)).Nodup:=by
 cases O:g0D n (qB qs n) with
 |none=>rw[Ic O h];exact vC
 |some g=>exact(Po O h).nd
end
nonrec def Ab3 (p:Gp):D:=p.en.getD .non
variable {don:oq (Str×Gp)}
def Abp {n:Str}(h:Dn qs n don)(hm:g0D m (qB qs m)=U_∨m∈don.map (·.1)):Sy.yet #[Y,[],don] m=u_ (FP qs m):=by
 cases U:(SyP qs).g0 m with
 |none=>
  unfold Sy.yet;rw[A4 (by intro z;cases z),U]
  show u_ (u_ ((SyP qs).once m))=u_ (FP qs m);rw[show FP qs m=_ from Sy.F_once (ya qs) U]
 |some g=>
  rcases hm with hm|hm
  ·rw[show(SyP qs).g0 m=U_ from hm] at U;cases U
  ·erw[Ae.mp hm,[O,p],hp,rfl];have hd:Sy.YX (Y:=SyP qs) don O=u_ p:=by
    have Z:=Abr h;unfold Sy.YX;have:(don.find? λq=>decide (q.1=O))=u_ (O,p):=by
     clear h hm
     induction don with
     |nil=>cases hp
     |cons q r ih=>
      rw[uD,U0] at Z;rcases Aa.mp hp with rfl|hp
      ·rw[v9,uh rfl]
      ·have aa:q.1≠O:=λz=>Z.1 (by rw[z];exact Ae.mpr [_:hp:1])
       rw[v9,ug aa];exact ih hp Z.2
    have e2:(TV (λq:Str×Gp=>decide (q.1=O)) don).map (·.2)=u_ p:=by rw[this];rfl
    exact e2
   erw[MK h hp,s,e2,e3];have e2:(SyP qs).g0 O=u_ s:=e2;rw[U] at e2;cases e2;unfold Sy.yet;rw[A4 (by intro z;cases z),U]
   show(Sy.YX (Y:=SyP qs) don O).map (λg=>((SyP qs).said g).map u_)=u_ (FP qs O);rw[hd];show u_ (((SyP qs).said p).map u_)=u_ (FP qs O);rw[show FP qs O=_ from Sy.F_run (ya qs) U]
   have e3:p=Sy.it (SyP qs) (Sy.F (SyP qs)) 302 g:=e3;rw[e3]
   rfl
end K46
namespace K46
open PySem L2 PyProof.Rows
structure Ac9 (CO CP:o6)(H0 H:Hp)(qs:oq (Str×D))(n:Str)(o:Oc)(rk uk fk:oq (Key×V))(don:oq (Str×Gp)):Prop where
 sm:ig H0 H
 oa:OAt CO CP H o qs
 dr:H o.dr=u_ (.dK rk)
 ks:rk.map (·.1)=don.map λp=>V3 p.1
 vs:L2.IsL H (don.map λp=>kP p.2) (rk.map (·.2))
 du:H o.du=u_ (.dK uk)
 uo:PL #[Y,[],don] uk
 df:H o.df=u_ (.dK fk)
 fd:CV H #[Y,[],don] fk
 fl:↑fk<=20101
 dn:Dn qs n don
 sg:SGI #[Y,[],don]
 gi:∀p∈don,GI p.2/\p.2.en.isSome=v_
 len:↑don<=20001
 new:H0 o.x=U_/\H0 o.dr=U_/\H0 o.du=U_/\H0 o.df=U_
 ne:o.dr≠o.df/\o.du≠o.df
inductive S3 (bn:Addr):Sp
 |mk (z:Str)(_:vs= [.str z])(hz:↑z<=1000)(_:nm z=v_->∀H',ig H H'->Q .non H')(_:nm z=V1->∀(e:Addr)(H':Hp),ig H H'->E_ (.ref e) (u_ bn) H')
inductive NA:Sp
 |mk (t:_)(z:_)(_:vs= [.ref t])(_:H t=u_ (.tup [.str z]))(_:nm z=v_)(_:∀H',ig H H'->Q .non H')
inductive No (CO CP:Addr):Sp
 |mk (px t:Addr)(n:Str)(qs:List (Str×D))(_:vs= [.ref px,.ref t])(_:H t=u_ (.tup [.str n]))(_:nm n=v_)(_:Q7 CP H px qs)(_:Qw qs)(_:∀H' o rk uk fk don,o.px=px->Ac9 CO CP H H' qs n o rk uk fk don->↑fk<=20001->Q (.ref o.x) H')
inductive Ny (CO CP:Addr):Sp
 |mk (px:Addr)(n:Str)(qs:List (Str×D))(_:vs= [.ref px,.str n])(_:nm n=v_)(_:Q7 CP H px qs)(_:Qw qs)(_:∀H' o rk uk fk don,o.px=px->Ac9 CO CP H H' qs n o rk uk fk don->↑fk<=20001->Q (.ref o.x) H')
variable {qs:oq (Str×D)}{don:oq (Str×Gp)}
def Ib {n:Str}(h:Dn qs n don):g0D n (qB qs n)=U_∨n∈don.map (·.1):=by
 cases O:g0D n (qB qs n) with
 |none=>exact .inl rfl
 |some g=>exact .inr (List.mem_of_getLast? (Pq O h))
section
variable {P:oh}{w:oj}{K:o0}{mg:Str->ot o7}{base:og}{a:Ad}{g:Ga}
def Mj (T:Tx K mg a)(C:Fx K w mg g a):FnOk P w K mg base (CX1 P w) 2 a.Zh a.Zn ["name"] (S3 g.bn):=by
 have O:=#[xw,T];refine T.iA.F.okX Kh () (λ_ _ _ _ H _ Q E U h=>?_)
 erw[h,z,rfl,Z,k1,k2];exists 3,%[|#[qM,#[Qm,#[qZ,#[qu,O,U.mono (),T.iM,#v[pv 0]]]],%[|#[W1,22,C.x_BadName,_,C.m_BadName,qm,_,_]],qv]]
 exists 0,.str z,.str z,1,Qb (),λH1 s1=>[0:?_]
 have e:my (.str z)=nm z:=rfl;rw[e];cases hn:nm z with
 |false=>exact lq [1:λe=>k2 hn e H1 s1]
 |true=>exact iU (k1 hn H1 s1)
def OF:#[C,3,a.Xj,a.XN,["names"],NA]:=by
 have JE:=#[Mj,T,C];exists 9,T.mt,J9
 erw[h,t,z,rfl,U,hz,k];exists 3,%[|#[yJ,#[pi_tup,pv 0],#[qN,(1),J9.nd],%[|#[qY,#[qu,16,JE,hr.mono (),_,T.iA.m,T.iA.F.kp,T.iA.b,.nil,Am,#v[pv 1],_,_,_]]]]]
 exists 0,t,1,[_:SqT.of U];refine Z8 (xs:= [.str z]) (λi σ H'=>(∃u,σ= [u_ (.ref t),u])/\ig H H') [⟨0⟩:ig.refl _] (λi σ H' _ h=>SqT.of (h.2 _ _ U)) ?_ ?_
 ·rintro i x σ H' Z ⟨⟨u,rfl⟩,s1⟩;have O:x= .str z:=by
   cases i with
   |zero=>exact(uM Z).symm
   |succ i=>cases Z
  subst O;exact⟨0,z,1,by have:=wM hz;omega,λ_ H2 s2=>[⟨0⟩:s1.trans s2],λz=>A8 (hz.symm.trans z) Bool.noConfusion⟩
 ·rintro σ H' ⟨_,s1⟩;exact k H' s1
def Ou:#[C,14,a.zV,a.Zj,["project","names"],(No a.qo a.qG)]:=by
 have Kl:=#[OF,T,C];have zq:=#[KQ,T];have jJ:=#[Oh,T,C];exists 9,T.mB,jC
 erw[h,px,t,n,qs,rfl,ht,hn,hP,hq,k1];exists 3,%[#[qY,#[qu,Kl,hr.mono (),T.mt,#v[pv 1]]],#[qH,(2),jC.nd,#[X8,T.M_PlainOrder,zq,T.m_PlainOrder,T.lL,qE,#v[pv 0]]],#[yJ,#[pi_tup,pv 1],#[qN,(3),jC.nd],%[|#[qY,#[Qf,pv 2,T.qy,T.iN,jJ,#v[pv 3]]]]]|#[qq,pv 2]]
 exists 8,N1,q1
 exists 0,t,n,1,ht,hn,λH1 s1=>q1 _ _ ?_;exists 8,N2,q2
 exists 0,λx dx hx aq nx=>?_;have s0:ig H1 (upd (upd H1 dx (.own x)) x (.ins a.qo dx [])):=λb o h=>by rwa[qh (qi h hx),qh (qi h aq)]
 exists x,dx,px,1,qg,λo H2 eo au aw kp tk f1 f2 f3 f4 nd ac ad ae af ag=>[1:q2 _ _ ?_];exists 8,N3,q3;have ax:ig H1 H2:=λb ob h=>kp b ob (s0 b ob h) (qi h hx);have O:=s1.trans ax;have ah:=O _ _ ht;subst eo au aw;have hB:Bs a.qo a.qG H2 o qs:=⟨[ac:hP.same O],[_:ad],[_:ae],[_:af],[_:ag],nd,hq⟩
 exists 0,t,1,[_:SqT.of ah];have fr:∀b,upd (upd H1 o.dx (.own o.x)) o.x (.ins a.qo o.dx []) b=U_->H b=none:=λb U=>by
  cases e:H b with
  |none=>rfl
  |some ob=>rw[s0 b ob (s1 b ob e)] at U;cases U
 let J_:Nat->L2.St->Hp->Prop:=λi σ H'=>(∃u,σ= [u_ (.ref o.px),u_ (.ref t),u_ (.ref o.x),u])/\((i=0/\H'=H2)∨(i=1/\∃rk uk fk don,Ac9 a.qo a.qG H H' qs n o rk uk fk don/\↑fk<=20001))
 refine Z8 (xs:= [.str n]) J_ [⟨0⟩:.inl [1:1]] (λi σ H' _ h=>?_) ?_ ?_
 ·rcases h.2 with⟨_,rfl⟩|⟨_,rk,uk,fk,don,h,_⟩
  ·exact SqT.of ah
  ·exact SqT.of (h.sm _ _ ht)
 ·rintro i x' σ H' ak ⟨⟨u,rfl⟩,h⟩;have Z:x'= .str n/\i=0:=by
   cases i with
   |zero=>exact[(uM ak).symm:1]
   |succ i=>cases ak
  erw[Z,rfl,rfl];rcases h with⟨_,rfl⟩|⟨z,_⟩
  ·exists 0,o.x,o.dx,0,ac,ZP o _ (),0,o,qs,n,1,hB,ad,ae,af,ag,λH3 rk uk fk don j al ay am aA aB aC k3 aD ao aE aF aG ap=>?_
   have out:∀b,H b≠U_->b∉LO o:=λb U z=>by
    simp![LO,uH,uI,uS] at z;rcases z with rfl|rfl|rfl|rfl
    ·exact U (fr _ f1)
    ·exact U (fr _ f2)
    ·exact U (fr _ f3)
    ·exact U (fr _ f4)
   have aa:=nd;simp![U0,uH,uI,uS,V0,vC,and_true,UU] at aa;have Z:H o.x=none:=by
    cases e:H o.x with
    |none=>rfl
    |some ob=>rw[s1 _ _ e] at hx;cases hx
   exact⟨⟨0⟩,.inr ⟨1,rk,uk,fk,don,⟨λb ob e=>k3.kept b ob (O b ob e) (out b (by rw[e];intro z;cases z)),hB.at k3,ao,aE,aF,al,ay,am,aA,(),[j:aD],aC,aG,ap,⟨Z,fr _ f3,fr _ f2,fr _ f4⟩,[aa.2.2:aa.2.1.2]⟩,aB⟩⟩
  ·cases z
 ·rintro σ H' ⟨⟨u,rfl⟩,h⟩;rcases h with⟨z,_⟩|⟨_,rk,uk,fk,don,h,hl⟩
  ·cases z
  ·exact q3 _ _ [0:k1 H' o rk uk fk don rfl h hl]
def OB:#[C,15,a.zO,a.zI,["project","name"],(Ny a.qo a.qG)]:=by
 have O:=#[Ou,T,C];exists 9,T.mD,Ki,U
 erw[h,px,n,qs,rfl,hn,Z,hq,k1];have hs:=uE;exists 3,%[|#[qq,#[qu,O,U.mono (),T.mB,#v[pv 0,#[qz,#v[pv 1]]]]]]
 exists 0,0,(sml rfl),λt ht=>?_;have s1:=qf ht (.tup [V.str n]);exact⟨px,t,n,qs,1,qg,hn,Z.same s1,hq,λH' o rk uk fk don e h hl=>k1 H' o rk uk fk don e ⟨s1.trans h.sm,h.oa,h.dr,h.ks,h.vs,h.du,h.uo,h.df,h.fd,h.fl,h.dn,h.sg,h.gi,h.len,⟨s1.free h.new.1,s1.free h.new.2.1,s1.free h.new.2.2.1,s1.free h.new.2.2.2⟩,h.ne⟩ hl⟩
end
variable {g:Gp}{m:Str}
def CZ (h:GI g)(O:y6 g=u_ m):∃kd,jO g= .tup [.str kd,.str m]/\nw kd=false:=by
 unfold y6 at O;split at O
 ·rename_i k z e
  by_cases c:nw k=v_
  ·rw[A6 c] at O;cases O
  ·rw[A4 c] at O;cases O;exact⟨k,e,by simpa using c⟩
 ·cases O
section
variable {qs:oq (Str×D)}
nonrec def MN (qs:oq (Str×D)) (m:Str):D:=match g0D m (qB qs m) with
 |none=>Yu (qB qs m)
 |some g=>yn ((itP qs 302 g).en.getD .non)
def Lz {n:Str}{p:Gp}(h:Dn qs n don)(U:(m,p)∈don):Sy.YX (Y:=SyP qs) don m=u_ p:=by
 have O:=Abr h;unfold Sy.YX;have:(don.find? λq=>decide (q.1=m))=u_ (m,p):=by
  clear h
  induction don with
  |nil=>cases U
  |cons q r ih=>
   rw[uD,U0] at O;rcases Aa.mp U with rfl|U
   ·rw[v9,uh rfl]
   ·have Z:q.1≠m:=λz=>O.1 (by rw[z];exact Ae.mpr [_:U:1])
    rw[v9,ug Z];exact ih U O.2
 have e2:(TV (λq:Str×Gp=>decide (q.1=m)) don).map (·.2)=u_ p:=by rw[this];rfl
 exact e2
def Ac6 {n:Str}(h:Dn qs n don)(hm:g0D m (qB qs m)=U_∨m∈don.map (·.1)):AbB qs don m=MN qs m:=by
 unfold AbB MN;cases U:g0D m (qB qs m) with
 |none=>rfl
 |some g=>
  rcases hm with hm|hm
  ·rw[U] at hm;cases hm
  ·erw[Ae.mp hm,[Z,p],hp,rfl];erw[MK h hp,s,O,e2];have O:g0D Z (qB qs Z)=u_ s:=O;rw[U] at O;cases O;have e2:p=itP qs 302 g:=e2;simp![Lz h hp];rw[<-e2]
   rfl
variable {e:D}
def Sj {x:Str}(h:ThS e):e≠ .tup [.str "stuck",.str x]:=by
 intro z;rcases h with⟨y,rfl⟩|⟨y,rfl,_⟩|⟨u,y,rfl,_⟩
 ·injection z with z;injection z with z _;injection z with z;revert z;decide+kernel
 ·injection z with z;injection z with z _;injection z with z;revert z;decide+kernel
 ·injection z with z;injection z with z _;injection z with z;revert z;decide+kernel
def EC {s:Gp}(O:g0D m (qB qs m)=u_ s):(itP qs 302 s).en.isSome=true:=Sy.it_end (Y:=SyP qs) (ya qs) 302 s ((ya qs).l0 m s O)
end
inductive Ks (CP:Addr):Sp
 |mk (px:Addr)(n:Str)(qs:List (Str×D))(_:vs= [.ref px,.str n])(_:nm n=v_)(_:Q7 CP H px qs)(_:Qw qs)(_:∀v H',ig H H'->Is H' (MN qs n) v->nrg (MN qs n)->Q v H')
section
variable {P:oh}{w:oj}{K:o0}{mg:Str->ot o7}{base:og}{a:Ad}{g:Ga}
def K8:#[C,16,a.wD,a.wj,["project","name"],(Ks a.qG)]:=by
 have O:=#[OB,T,C];have Qa:=#[D2,T];exists 9,T.mS,nT
 erw[h,px,n,qs,rfl,hn,hP,hq,k];exists 3,%[|#[qq,#[Qf,#[qu,O,hr.mono (),T.mD,#v[pv 0,pv 1]],T.qy,T.im,Qa,#v[pv 1]]]]
 exists 0,0,px,n,qs,1,hn,hP,hq,λH1 o rk uk fk don _ U hl=>?_
 exists o.x,o.dx,0,U.oa.e,ZP o _ (),0,o,n,qs,#[Y,[],don],uk,fk,1,U.oa,hq,U.sg,U.du,U.uo,U.df,U.fd,(),(λp hp=>(U.gi p hp).2),λv H2 ac k2 f2 d2 l2 _ y2=>?_
 unfold AO at y2;rw[Abp U.dn (Ib U.dn)] at y2;erw[y2,d,hd,ha,hg];obtain⟨aa,Z⟩:=hg (λz=>by cases z)
 have Z:d=MN qs n:=Z.trans (Ac6 U.dn (Ib U.dn));rw[Z] at hd aa;refine k v H2 (λb ob e=>k2.kept b ob (U.sm b ob e) (λz=>?_)) hd aa;rw[Ab.mp z,U.new.2.2.2] at e;cases e
end
def ko {H:Hp}:∀{zs:oq Str},(∀z∈zs,↑z<=100)->L2.IsL H (zs.map D.str) (zs.map V.str)
 | [],_=>rfl
 |z::r,h=>⟨_,0,Qb (by have:=h z ui;omega),ko λy O=>h y (uj _ O)⟩
variable {e:D}
def LG {s:Gp}(O:g0D m (qB qs m)=u_ s)(U:(itP qs 302 s).en=u_ e):MN qs m=yn e:=by
 unfold MN;rw[O]
 try dsimp only
 rw[U]
 rfl
inductive Ch (rs:List Rw)(own:Str):Rn->List D->Rn->Prop
 |nil (r:Rn):Ch rs own r [] r
 |cons {r r':Rn}{a:D}{as:List D}(u:Str)(d:D)(h1:r.th= .tup [.str "asks",.tup [.str u,d]])(h2:AN u a=v_)(h3:Ch rs own (l8 rs own r a) as r'):Ch rs own r (a::as) r'
variable {rs:oq Rw}{own:Str}
def Ch.snoc {a:D}{r O:Rn}{as:oq D}(h:Ch rs own r as O)(u:Str)(d:D)(h1:O.th= .tup [.str "asks",.tup [.str u,d]])(h2:AN u a=v_):Ch rs own r (as++ [a]) (l8 rs own O a):=by
 induction h with
 |nil r=>exact .cons u d h1 h2 (.nil _)
 |cons U d' k1 k2 _ Z=>exact .cons U d' k1 k2 (Z h1)
def II {r:Rn}{u:Str}{d:D}(h:r.th= .tup [.str "asks",.tup [.str u,d]]):Qx r.th=true:=by
 rw[h];show decide (("asks":Str)="asks")=v_;exact uh rfl
nonrec def Ab4:D->D
 | .tup [_,a]=>a
 |_=> .non
nonrec def RC (g:Gp):Prop:=∀rs r,g.run=u_ (rs,r)->Ch rs g.n (R0 rs g.n) (r.gs.map Ab4) r
def L9 (h:g.run=U_)(d:D):RC (ml g d):=by
 intro rs r e;by_cases hn:yt d=v_
 ·have U:ml g d={g with en:=u_ (flt "lack")}:=A6 hn
  rw[U] at e;exact A8 (h.symm.trans e) (by intro z;cases z)
 ·cases Z:QK d with
  |none=>
   have U:ml g d={g with en:=u_ (flt "rule")}:=by unfold ml;rw[A4 hn,Z]
   rw[U] at e;exact A8 (h.symm.trans e) (by intro z;cases z)
  |some O=>
   have U:ml g d={g with run:=u_ (O,R0 O g.n),en:=mY (R0 O g.n)}:=by unfold ml;rw[A4 hn,Z]
   rw[U] at e⊢;cases e;have:(R0 rs g.n).gs= []:=wl _ _ _ _;show Ch rs g.n (R0 rs g.n) ((R0 rs g.n).gs.map Ab4) (R0 rs g.n);rw[this];exact .nil _
def DI {d:D}(O:RC g)(U:∀rs r,g.run=u_ (rs,r)->∃u e,r.th= .tup [.str "asks",.tup [.str u,e]]/\AN u d=v_):RC (QX g d):=by
 cases h:g.run with
 |none=>
  have e:QX g d=ml {g with ra:= [.tup [.tup [.str "rule",g.mb],d]]} d:=by unfold QX;rw[h]
  rw[e];exact L9 (g:={g with ra:= [.tup [.tup [.str "rule",g.mb],d]]}) h d
 |some p=>
  erw[p,rs,r];have Z:QX g d={g with run:=u_ (rs,l8 rs g.n r d),en:=mY (l8 rs g.n r d)}:=by unfold QX;rw[h]
  rw[Z];intro aa r' e;cases e;erw[U rs r h,u,x,h1,h2];have:=(O rs r h).snoc u x h1 h2;show Ch rs g.n (R0 rs g.n) ((l8 rs g.n r d).gs.map Ab4) (l8 rs g.n r d);rw[AL,um];exact this
section
variable {qs:oq (Str×D)}
def NO (hq:Qw qs)(h:GI g)(hc:RC g):RC (Sy.step (SyP qs) (FP qs) g):=by
 rw[sV];cases he:g.en with
 |some d=>exact hc
 |none=>
  simp![UG,A4 ub];cases hw:y6 g with
  |none=>
   erw[XG (qs:=qs) h he hw,rs,r,k,z,aa,ac,hk,_,e];show RC (sT qs g);rw[e];exact DI hc λae r' e'=>by
    rw[aa] at e';cases e';exact⟨k,_,ac,(W4 hq z hk).2⟩
  |some m=>
   simp only;cases hF:FP qs m with
   |none=>exact λrs r e=>hc rs r e
   |some y=>
    refine DI hc λrs r e=>?_;erw[CZ h hw,kd,U,hk];have Z:=(h.run rs r e).2.2;unfold jO at U;rw[e] at U;have U:X4 r.th= .tup [.str kd,.str m]:=U;have O:=Z.2 he;rcases Z.1 with⟨z,e1⟩|⟨e0,e1,_⟩|⟨u,z,e1,_,hu⟩
    ·rw[e1] at O;exact A8 (show decide (("fault":Str)="asks")=v_ from O) ()
    ·rw[e1] at O;exact A8 (show decide (("said":Str)="asks")=v_ from O) ()
    ·rw[e1] at U;have U:D.tup [.str u,.str z]= .tup [.str kd,.str m]:=U;cases U;have ad:kd="thing":=by
      rcases hu with rfl|⟨rfl|rfl,_⟩
      ·exact A8 hk ()
      ·rfl
      ·exact A8 hk ()
     subst ad;exact⟨_,_,e1,Wz (Ab7 hq _ _ hF)⟩
def Aai (O:Qw qs):∀(k:Nat) {g:Gp},GI g->GA g->RC g->RC (itP qs k g)
 |0,g,h,ha,t=>t
 |k+1,g,h,ha,t=>by
  erw[kD O (Ab7 O) h ha,h1,h2];exact Aai O k h1 h2 (NO O h t)
def Acs {d:D}(h:g0D m d=u_ g):RC g:=by
 unfold g0D at h;split at h
 ·split at h
  ·cases h
  ·split at h
   ·cases h;intro rs r e;cases e
   ·cases h;exact L9 rfl _
 ·cases h
def Aad (U:Qw qs)(O:g0D m (qB qs m)=u_ g)(k:Nat):RC (itP qs k g):=Aai U k (CC U O).1 (Lu O).1 (Acs O)
nonrec def lP (z:Str):D:= .tup [.str "stuck",.str z]
nonrec def Ab0 (z:Str):D:= .tup [.str "asks",.tup [.str "thing",.str z]]
nonrec def Hs (src:D)(pre:oq D)(rl:D):Prop:=(src= .tup [.str "rule",rl]/\pre= [])∨∃z:Str,src= .tup [.str "made",.str z]/\pre= [.tup [.tup [.str "rule",.str z],rl]]
inductive IG (src:D)(p:Gp):Prop
 |wait (z:Str)(h0:src= .tup [.str "made",.str z])(h1:p.mb= .str z)(h2:p.run=U_)(h3:p.ra= [])(h4:p.en=U_∨p.en=u_ (lP z)):IG src p
 |lack (pre:List D)(rl:D)(h0:Hs src pre rl)(h1:p.ra=pre)(h2:p.run=U_)(h3:yt rl=v_)(h4:p.en=u_ (flt "lack")):IG src p
 |bad (pre:List D)(rl:D)(h0:Hs src pre rl)(h1:p.ra=pre)(h2:p.run=U_)(h3:yt rl=V1)(h5:QK rl=U_)(h4:p.en=u_ (flt "rule")):IG src p
 |run (pre:List D)(rl:D)(rs:List Rw)(r:Rn)(h0:Hs src pre rl)(h1:p.ra=pre)(h2:p.run=u_ (rs,r))(h3:yt rl=V1)(h5:QK rl=u_ rs)(h4:p.en=mY r∨∃z,p.en=u_ (lP z)/\r.th=Ab0 z):IG src p
variable {src:D}
def MA {pre:oq D}{rl:D}(h:g.run=U_)(hs:Hs src pre rl)(hp:g.ra=pre):IG src (ml g rl)/\(ml g rl).n=g.n:=by
 cases hn:yt rl with
 |true=>
  have O:ml g rl={g with en:=u_ (flt "lack")}:=A6 hn
  rw[O];exact[.lack pre rl hs hp h hn rfl:1]
 |false=>
  have U:¬yt rl=true:=by rw[hn];exact ub
  cases Z:QK rl with
  |none=>
   have O:ml g rl={g with en:=u_ (flt "rule")}:=by unfold ml;rw[A4 U,Z]
   rw[O];exact[.bad pre rl hs hp h hn Z rfl:1]
  |some rs=>
   have O:ml g rl={g with run:=u_ (rs,R0 rs g.n),en:=mY (R0 rs g.n)}:=by unfold ml;rw[A4 U,Z]
   rw[O];exact[.run pre rl rs _ hs hp rfl hn Z (.inl rfl):1]
def AcN (Z:Qw qs)(h:g0D m (qB qs m)=u_ g):IG (qB qs m) g:=by
 have hm:m∈qs.map (·.1):=(ya qs).gn m g h;erw[J5 Z hm,_,k,e,hd,h1,h2];rw[hd] at h⊢;have h:(if k="leaf" then U_ else if k="made" then u_ (⟨m,e,[],U_,U_⟩:Gp) else u_ (ml ⟨m,.non,[],U_,U_⟩ e))=u_ g:=h
 by_cases U:k="leaf"
 ·rw[A6 U] at h;cases h
 rw[A4 U] at h;by_cases O:k="made"
 ·rw[A6 O] at h;cases h;erw[h1 O,z,rfl,_];subst O;exact .wait z rfl rfl rfl rfl (.inl rfl)
 ·rw[A4 O] at h;cases h;have hk:k="rule":=by
   rcases(h2 O).1 with h|h
   ·exact A8 h U
   ·exact h
  subst hk;exact(MA (g:=⟨m,.non,[],U_,U_⟩) rfl (.inl [1:1]) rfl).1
def O8 (hq:Qw qs)(h:GI g)(hi:IG src g):IG src (Sy.step (SyP qs) (FP qs) g):=by
 rw[sV];cases he:g.en with
 |some d=>exact hi
 |none=>
  simp![UG,A4 ub];cases hi with
  |lack pre rl h0 h1 h2 h3 h4=>rw[he] at h4;cases h4
  |bad pre rl h0 h1 h2 h3 h5 h4=>rw[he] at h4;cases h4
  |wait z h0 h1 h2 h3 h4=>
   have hw:y6 g=u_ z:=by
    unfold y6 jO;rw[h2]
    try dsimp only
    rw[h1]
    try dsimp only
    exact A4 ()
   rw[hw]
   try dsimp only
   cases hF:FP qs z with
   |none=>exact .wait z h0 h1 h2 h3 (.inr rfl)
   |some y=>
    have e:QX g (y.getD .non)=ml {g with ra:= [.tup [.tup [.str "rule",g.mb],y.getD .non]]} (y.getD .non):=by unfold QX;rw[h2]
    show IG src (QX g (y.getD .non));rw[e];exact(MA (g:={g with ra:= [.tup [.tup [.str "rule",g.mb],y.getD .non]]}) h2 (.inr ⟨z,h0,by rw[h1]⟩) rfl).1
  |run pre rl rs r h0 h1 h2 h3 h5 h4=>
   have tk:∀d,IG src (QX g d):=λd=>by
    have e:QX g d={g with run:=u_ (rs,l8 rs g.n r d),en:=mY (l8 rs g.n r d)}:=by unfold QX;rw[h2]
    rw[e];exact .run pre rl rs _ h0 h1 rfl h3 h5 (.inl rfl)
   cases hw:y6 g with
   |none=>
    erw[XG (qs:=qs) h he hw,aa,r',k,z,ac,ad,hk,_,e];show IG src (sT qs g);rw[e];exact tk _
   |some m=>
    try dsimp only
    cases hF:FP qs m with
    |some y=>exact tk _
    |none=>
     erw[CZ h hw,kd,U,hk];have Z:=(h.run rs r h2).2.2;unfold jO at U;rw[h2] at U;have U:X4 r.th= .tup [.str kd,.str m]:=U;have O:=Z.2 he;refine .run pre rl rs r h0 h1 h2 h3 h5 (.inr [m:1:?_]);rcases Z.1 with⟨z,e1⟩|⟨e0,e1,_⟩|⟨u,z,e1,_,hu⟩
     ·rw[e1] at O;exact A8 (show decide (("fault":Str)="asks")=v_ from O) ()
     ·rw[e1] at O;exact A8 (show decide (("said":Str)="asks")=v_ from O) ()
     ·rw[e1] at U⊢;have U:D.tup [.str u,.str z]= .tup [.str kd,.str m]:=U;cases U;rcases hu with rfl|⟨rfl|rfl,_⟩
      ·exact A8 hk ()
      ·rfl
      ·exact A8 hk ()
def SS (g:Gp):(Sy.step (SyP qs) (FP qs) g).n=g.n:=by
 rw[sV];split
 ·rfl
 ·split
  ·exact AaE qs g
  ·split
   ·exact C7 g _
   ·rfl
def Abf (O:Qw qs){src:D}:∀(k:Nat) {g:Gp},GI g->GA g->IG src g->IG src (itP qs k g)/\(itP qs k g).n=g.n
 |0,g,h,ha,t=>[t:1]
 |k+1,g,h,ha,t=>by
  erw[kD O (Ab7 O) h ha,h1,h2];erw[Abf O k h1 h2 (O8 O h t),U,Z];exact[U:Z.trans (SS g)]
inductive Fn (qs:List (Str×D))(m:Str)(src:D)(as:List D)(en:D):Prop
 |wait (z:Str)(h0:src= .tup [.str "made",.str z])(h1:as= [])(h2:en=lP z):Fn qs m src as en
 |lack (pre:List D)(rl:D)(h0:Hs src pre rl)(h1:as=pre)(h3:yt rl=v_)(h4:en=flt "lack"):Fn qs m src as en
 |bad (pre:List D)(rl:D)(h0:Hs src pre rl)(h1:as=pre)(h3:yt rl=V1)(h5:QK rl=U_)(h4:en=flt "rule"):Fn qs m src as en
 |run (pre:List D)(rl:D)(rs:List Rw)(r:Rn)(h0:Hs src pre rl)(h1:as=pre++r.gs)(h3:yt rl=V1)(h5:QK rl=u_ rs)(h6:Ch rs m (R0 rs m) (r.gs.map Ab4) r)(h7:CU rs r)(h8:ThS r.th)(h4:en=r.th∨∃z,en=lP z/\r.th=Ab0 z):Fn qs m src as en
def E1 (hq:Qw qs)(Z:g0D m (qB qs m)=u_ g):Fn qs m (qB qs m) (JW (itP qs 302 g)) (Ab3 (itP qs 302 g)):=by
 erw[CC hq Z,hG,hn];erw[Abf hq 302 hG (Lu Z).1 (AcN hq Z),hi,aa];have O:=EC Z;have ac:=Aad hq Z 302;have U:=(Abb hq Z 302).1;generalize itP qs 302 g=p at hi aa O ac U;unfold Ab3 JW;cases hi with
 |wait z h0 h1 h2 h3 h4=>
  rcases h4 with h4|h4
  ·rw[h4] at O;cases O
  ·rw[h2,h3,h4];exact .wait z h0 rfl rfl
 |lack pre rl h0 h1 h2 h3 h4=>
  rw[h2,h4,h1];exact .lack pre rl h0 (uX _) h3 rfl
 |bad pre rl h0 h1 h2 h3 h5 h4=>
  rw[h2,h4,h1];exact .bad pre rl h0 (uX _) h3 h5 rfl
 |run pre rl rs r h0 h1 h2 h3 h5 h4=>
  have hc:=ac rs r h2;rw[aa,hn] at hc;have hO:=(U.run rs r h2).2.1;have ad:=(U.run rs r h2).2.2.1;rw[h2,h1];refine .run pre rl rs r h0 rfl h3 h5 hc hO ad ?_;rcases h4 with h4|⟨z,h4,h6⟩
  ·rw[h4] at O⊢;unfold mY at O⊢;by_cases c:Qx r.th=v_
   ·rw[A6 c] at O;cases O
   ·rw[A4 c];exact .inl rfl
  ·rw[h4];exact .inr [z:1:h6]
end
nonrec def Se (qs ers:oq (Str×D))(kd z:Str)(an:D):Prop:=(kd≠"names"->nm z=v_)/\((nw kd=v_/\an=XZ qs kd z)∨(nw kd=V1/\(kd="thing"∨kd="rule")/\((g0D z (qB qs z)=U_/\an=(oF (qB qs z)).getD .non)∨((∃s,g0D z (qB qs z)=u_ s)/\z∈ers.map (·.1)/\qB ers z= .tup [.str "said",an]/\isT an=v_))))
structure Rst (qs ers es:oq (Str×D))(m:Str)(as:oq D)(en:D):Prop where
 nin:m∉ers.map (·.1)
 run:∃s,g0D m (qB qs m)=u_ s
 asks:∀x∈as,∃kd z an,x= .tup [.tup [.str kd,.str z],an]/\↑z<=1000/\Se qs ers kd z an
 fin:Fn qs m (qB qs m) as en
 few:↑as<=400
 nd:nL as=v_/\dpL as<=30/\nD en=v_/\dp en<=20
 stk:∀z,en=lP z->z∈es.map (·.1)/\∃k x,qB es z= .tup [.str k,x]/\k≠"said"
noncomputable abbrev Pp:=oq (Str×oq D×D)
nonrec def lS (ps:Pp):oq (Str×D):=ps.map λs=>(s.1,s.2.2)
nonrec def stD (s:Str×oq D×D):D:= .tup [.str s.1,.tup s.2.1,s.2.2]
nonrec def Sd (qs ers:oq (Str×D))(kd z:Str)(an:D):Prop:=(kd="thing"∨kd="rule")/\nm z=v_/\(∃s,g0D z (qB qs z)=u_ s)/\isT an=v_/\(z∉ers.map (·.1)∨(z∈ers.map (·.1)/\∃y,qB ers z=lP y))
variable {ers:oq (Str×D)}{kd z:Str}{an:D}
def kA (h:Sd qs ers kd z an):¬Se qs ers kd z an:=by
 erw[h,hk,_,[s,hg],_,U];rintro⟨_,⟨hh,_⟩|⟨_,_,⟨h0,_⟩|⟨_,Z,hd,_⟩⟩⟩
 ·rcases hk with rfl|rfl
  ·exact A8 hh ()
  ·exact A8 hh ()
 ·rw[h0] at hg;cases hg
 ·rcases U with U|⟨_,y,O⟩
  ·exact U Z
  ·rw[hd] at O;unfold lP at O;injection O with O
   injection O with O _
   injection O with O
   exact A8 O ()
nonrec def AbZ (qs ers es:oq (Str×D))(m:Str)(as:oq D)(en:D):Prop:=m∉ers.map (·.1)/\(∃s,g0D m (qB qs m)=u_ s)/\(((∀x∈as,∃kd z an,x= .tup [.tup [.str kd,.str z],an]/\↑z<=1000/\(Se qs ers kd z an∨Sd qs ers kd z an))/\∃kd z an,D.tup [.tup [.str kd,.str z],an]∈as/\Sd qs ers kd z an)∨∃es',Rst qs ers es' m as en/\EnS en/\∃z,en=lP z/\(z∉es.map (·.1)∨(z∈es.map (·.1)/\∃x,qB es z= .tup [.str "said",x])))
inductive Aan (x:V)(y:V)(H:Hp)(Q:VK):Prop
 |same (d:D)(h0:Is H d x)(h1:Is H d y)(h2:d= .non∨trD d=v_)(h3:dp d<=60)(h4:Q (.bl v_) H):Aan x y H Q
 |tt (ds es:List D)(h0:Is H (.tup ds) x)(h1:Is H (.tup es) y)(h2:nL ds=v_)(h3:nL es=v_)(h4:dpL ds<=60)(h5:eqNL ds es=V1)(h6:Q (.bl V1) H):Aan x y H Q
 |nt (p:Addr)(us:List V)(h0:x= .non)(h1:y= .ref p)(h2:H p=u_ (.tup us))(h3:Q (.bl V1) H):Aan x y H Q
variable {X:Cx}
def DZ (hu:X.A.units+64<Vb):OpR X (Vc .Eq) Aan:=by
 exists 2,x,y,v,u,Q,I,O,U,h;have Z:X.A.units<cLine:=by omega
 rcases h with⟨d,h1,h2,rfl|hd,hp,q⟩|⟨ds,es,h1,h2,h3,h4,h5,h6,q⟩|⟨p,us,rfl,rfl,hp,q⟩
 ·cases(show x= .non from h1)
  cases(show y= .non from h2)
  exact QW ou s σ H .non .non v u Q I O U ⟨1,by simpa using q⟩
 ·refine Bo hu ou s σ H x y v u Q I O U ⟨d,d,h1,h2,hd,hd,hp,?_⟩;rwa[(AE (LU hd)).mpr rfl]
 ·refine W0 hu ou s σ H x y v u Q I O U ⟨ds,es,h1,h2,h3,h4,h5,?_⟩;rwa[h6]
 ·cases O;cases U;erw[I.tuple (.inl (.of hp)),its,_,tq,_];exact p7 tq Z X.prog X.w X.xe _ ⟨.bl V1,H,I,1,q⟩
def MG {K:o0}{a:o6}{c:Int}{xs:oq V}{g:TG}{tb:TS}{D:mL}{σ:L2.St}{H:Hp}(O:Nat->L2.St->Hp->Prop)(h0:O 0 σ H)(hl:∀i σ H,i<=↑xs->O i σ H->SqT K H a xs)
  (hs:∀i x σ H p,xs[i]? =u_ x->O i σ H->H p=U_->g (.ref p) σ (upd H p (.tup [.int (c+i),x])) λZ H2=>tb {D with nx:=O (i+1),ct:=O (i+1),bk:=D.nx} Z H2) (hd:∀σ H,O ↑xs σ H->D.nx σ H):
  ∃W:Nat->Nat->L2.St->Hp->Prop,(∃m,W 0 m σ H)/\∀i m σ H,W i m σ H->
   ((Ite K a c).stop i H/\D.nx σ H)∨((Ite K a c).go i H/\∃N:L2.St->Hp->Prop,(∀σ' H',N σ' H'->∃m',m'<m/\W (i+1) m' σ' H')/\∀x H',(Ite K a c).yld i H x H'->g x σ H' λZ H2=>tb {D with nx:=N,ct:=N,bk:=D.nx} Z H2):=by
 exists λi m σ H=>m=↑xs-i/\i<=↑xs/\O i σ H,⟨↑xs,by simp,uY _,h0⟩
 rintro i m σ H ⟨rfl,hi,p⟩;have q:=hl i σ H hi p;by_cases U:i<↑xs
 ·refine .inr ⟨⟨xs,xs[i],q,by simp[U]⟩,O (i+1),λσ' H' p'=>⟨↑xs-(i+1),(),1,U,p'⟩,λx H' y=>?_⟩
  erw[y,p2,y2,rfl,hp,rfl,y];exact hs i y2 σ _ p2 (y xs q) p hp
 ·have e:i=↑xs:=by omega
  subst e;exact .inl [[xs:q:1]:hd σ H p]
inductive Dt:Sp
 |mk (v:V)(d:D)(_:vs= [v])(_:Is H d v)(_:(d= .non∨∃k e,d= .tup [.str k,e]))(_:∀H',ig H H'->Q (.bl (yt (Yu d))) H')
inductive CG (rs:List Rw)(own:Str):Rn->List D->Rn->Prop
 |nil (r:Rn):CG rs own r [] r
 |cons {r r':Rn}{a:D}{gs:List D}(u:Str)(d:D)(h1:r.th= .tup [.str "asks",.tup [.str u,d]])(h2:AN u a=v_)(h3:CG rs own (l8 rs own r a) gs r'):CG rs own r (.tup [.tup [.str u,d],a]::gs) r'
def Abu {rs:oq Rw}{own:Str}:∀{as:oq D}{r r':Rn},Ch rs own r as r'->∃gs,r'.gs=r.gs++gs/\CG rs own r gs r'
 |_,_,_,.nil r=>⟨[],by simp,.nil r⟩
 |_,r,_,.cons (a:=a) u d h1 h2 h3=>by
  erw[Abu h3,gs,e,h];exists .tup [.tup [.str u,d],a]::gs,?_,.cons u d h1 h2 h;rw[e,AL,h1];simp[X4]
inductive Nf (C:Addr):Sp
 |mk (m:Mc)(r r':Rn)(t:Addr)(us:List V)(gs:List D)(_:vs= [.ref m.x,.ref t])(_:yo C H m r)(_:CU m.rs r)(_:QL m.rs)(_:↑m.own<=100)(_:H t=u_ (.tup us))(_:L2.IsL H gs us)(_:CG m.rs m.own r gs r')(_:∀H',Mv m H H'->yo C H' m r'->CU m.rs r'->Q (.int (↑gs:Int)) H')
nonrec def Adk (r:Rn)(en:D):Prop:=(en=r.th/\Qx r.th=V1/\∃k x,en= .tup [.str k,x]/\k≠"stuck")∨∃z,en=lP z/\r.th=Ab0 z
inductive Nz:Sp
 |mk (rv:V)(own:Str)(tr ta:Addr)(us:List V)(ev:V)(rs:List Rw)(r:Rn)(gs:List D)(_:vs= [rv,.str own,.ref tr])(_:Is H (yE rs) rv)(_:QL rs)(_:nm own=v_)(_:H tr=u_ (.tup [.ref ta,ev]))(_:H ta=u_ (.tup us))(_:L2.IsL H gs us)(_:CG rs own (R0 rs own) gs r)(_:Is H r.th ev)(_:Qx r.th=V1)(_:∀H',ig H H'->Q (.bl v_) H')
inductive IS:Sp
 |mk (rv:V)(own:Str)(ta:Addr)(us:List V)(ev:V)(rs:List Rw)(r:Rn)(gs:List D)(en:D)(_:vs= [rv,.str own,.ref ta,ev])(_:Is H (yE rs) rv)(_:QL rs)(_:nm own=v_)(_:H ta=u_ (.tup us))(_:L2.IsL H gs us)(_:CG rs own (R0 rs own) gs r)(_:Is H en ev)(_:Adk r en)(_:∀H',ig H H'->Q (.bl v_) H')
inductive Ds:Sp
 |mk (sv:V)(own:Str)(ta:Addr)(us:List V)(ev:V)(qs:List (Str×D))(src:D)(as:List D)(en:D)(_:vs= [sv,.str own,.ref ta,ev])(_:Is H src sv)(_:nm own=v_)(_:H ta=u_ (.tup us))(_:L2.IsL H as us)(_:Fn qs own src as en)(_:Is H en ev)(_:EnS en)(_:nD en=v_/\dp en<=20)(_:∀H',ig H H'->Q (.bl v_) H')
section
variable {P:oh}{w:oj}{K:o0}{mg:Str->ot o7}{base:og}{a:Ad}{g:Ga}
def oJ:#[T,2,a.f_has_run,a.d_has_run,["source"],Dt]:=by
 have Z:=#[Ao,T];exists 9,T.mK,Cj
 erw[h,v,d,rfl,iv,hd,k];have hs:=uE;exists 3,%[|#[qq,#[Qg,yl,#[qu,Z,hr.mono (),T.iC,#v[pv 0]],qQ]]]
 exists 0,v,d,1,iv,hd,λu H1 s1 O=>[1:?_];have e:decide (u=V.non)=yt (Yu d):=by
  cases hd:yt (Yu d) with
  |true=>
   cases U:Yu d with
   |non=>rw[U] at O;exact uh O
   |_=>rw[U] at hd;cases hd
  |false=>exact ug (jB O λz=>by rw[z] at hd;cases hd)
 rw[e];exact k _ s1
def D4:#[C,8,a.jp,a.jo,["machine","asks"],(Nf a.ql)]:=by
 have Qp:=#[oG,T];have Yr:FnOk P w K mg base (CX1 P w) 6 a.Yl a.Yk ["self","tree"] (L3 a.ql):=(Ml T C).up0;exists 9,T.iP,yr
 erw[h,m,r0,r',t,us,gs,rfl,M0,ah,hR,ak,ht,ac,al,k];have hs:=uE;have U:↑us=↑gs:=↑ac;exists 3,%[#[yJ,#[Bl,8,_,T.ZN,pv 1,_],#[Wl,QD #[qN,(2),yr.nd] (QD #[qN,(3),yr.nd] xx)],%[#[qM,#[qr,#[Ka,1,hr.units],#[QE,pv 0,T.qp,T.iB,Qp],#[qz,#v[qm,#[qF,qA,pv 3]]]],%[|#[qq,pv 2]],qv]|#[NU,26,pv 0,T.qp,T.iD.h,Yr,hr.mono (),T.iD.b,#v[#[qF,qA,pv 3]],[1:1],_,C.m_BadAnswer,C.e_BadAnswer,(λ_ _=>%[|#[qq,pv 2]]),_,_,_,_,_]]]|#[qq,#[qD,qR,T.Yg,uQ,#v[pv 1]]]]
 exists 8,N1,q1
 exists 0,t,us,1,SqT.of ht,λhsz=>?_
 let J_:Nat->L2.St->Hp->Prop:=λi σ H'=>∃(r:Rn) (x2 x3:ot V),σ= [u_ (.ref m.x),u_ (.ref t),x2,x3]/\yo a.ql H' m r/\CU m.rs r/\CG m.rs m.own r (gs.drop i) r'/\Mv m H H'
 refine MG (c:=0) (xs:=us) J_ ⟨r0,_,0,M0,ah,al,Mv.refl _ _⟩ (λi σ H' hi ⟨_,_,_,_,_,_,_,mv⟩=>SqT.of (mv.tk.tup _ _ ht)) ?_ ?_
 ·rintro i y σ H' p hy ⟨r,x2,x3,rfl,M,hO,hc,mv⟩ hp;have ad:i<↑gs:=by rw[<-U];exact(Ag.mp hy).1
  have am:gs.drop i=gs[i]::gs.drop (i+1):=uU ad;rw[am] at hc;generalize ao:gs[i]=gi at hc;obtain⟨y',ae,iy⟩:=ac.get (i:=i) (d:=gi) (by rw[uc ad,ao])
  rw[hy] at ae;cases ae;have s1:=qf hp (.tup [.int (0+(i:Int)),y]);have M1:=M.same s1;have Z:=mv.trans (Mv.of s1);have e1:(upd H' p (.tup [.int (0+(i:Int)),y])) p=u_ (.tup [.int (0+(i:Int)),y]):=qg;generalize upd H' p (.tup [.int (0+(i:Int)),y])=H1 at s1 M1 Z e1⊢;have ap:=iy.mono Z.tk;cases hc with
  |cons u d h1 h2 h3=>
   rename_i an
   erw[ap,tp,up,rfl,af,v1,r1,rfl,i1,v2,r2,rfl,i2,aq];cases(show r2= [] from aq)
   exists p,0,SqT.of e1,1,_,0,_,0,1;show ni _ _ _ _ H1;exists 8,B1,b1;erw[id M1,au,aw,_,_,_,_,ax,ay,_]
   exists 0,m.x,au,aw,1,ax,ay.meth _ (),m,r,1,M1,λv5 i5=>?_
   rw[h1] at i5
   exists 0,tp,_,_,0,1,SqT.of af,qC (j:=0) rfl,sml rfl,λl hl=>?_;have s2:=qf hl (.tup [.str "asks",v1]);have aa:=hO.gd;rw[h1] at aa;have O:=wR aa.1;have ag:dpL [.str "asks",.tup [.str u,d]]<=60:=by
    have:=aa.2;simp![dp] at this⊢;omega
   simp![nD] at O
   exists [.str "asks",.tup [.str u,d]],[.str "asks",.tup [.str u,d]],i5.mono s2.tk,Is.new (ds:= [.str "asks",.tup [.str u,d]]) ⟨_,0,Qb (),_,0,i1,1⟩ hl,O,O,ag,0
   rw[(eqNL_iff O).mpr rfl];refine iU (b1 _ _ ?_);have M2:=M1.same s2;have aA:=Z.trans (Mv.of s2);erw[id M2,aB,aC,_,_,_,_,aD,aE,_]
   exists 0,m.x,aB,aC,1,aD,aE.meth _ (),0,tp,_,_,0,1,SqT.of (s2 _ _ af),qC (j:=1) rfl,m,r,v2,u,d,an,1,M2,hO,h1,i2.mono s2.tk,hR,ak,h2,λH3 aF M3=>?_
   exact⟨l8 m.rs m.own r an,_,0,M3,AK hR hO (II h1) (AM h2),h3,aA.trans aF⟩
 ·rintro σ H' ⟨r,x2,x3,rfl,M,hO,hc,mv⟩;rw[U,RO] at hc;cases hc;refine q1 _ _ ?_
  exists 0,t,us,1,.inr (SqT.of (mv.tk.tup _ _ ht));rw[U];exact k _ mv M hO
variable {C dx:o6}{H:Hp}{v:V}{Q:VK}
def Ms {br bn:o6}{E:XK}{x:o6}(hv:Is H (yE rs) v)(hR:QL rs)(O:nm own=v_)(hx:H x=U_)(Z:H dx=U_)(q:∀(db dg:o6) (H':Hp),H db=U_->H dg=U_->ig H H'->yo C H' ⟨x,db,dg,rs,own⟩ (R0 rs own)->Q .non H'):
  k8 C br bn [.ref x,v,.str own] (upd (upd H dx (.own x)) x (.ins C dx [])) Q E:=by
 have U:ig H (upd (upd H dx (.own x)) x (.ins C dx [])):=λb o h=>by rwa[qh (qi h hx),qh (qi h Z)]
 have hl:=wM O;exists x,dx,v,.str own,yE rs,.str own,1,qg,hv.mono U.tk,Qb (),λh=>?_,λ_ h=>?_,λaa af e1 ac e2 _ _ H1 db dg kept ad ae M1=>?_
 ·rw[hR.read] at h;cases h
 ·rw[show my (.str own)=nm own from rfl,O] at h;cases h
 ·cases e2;have:aa=rs:=by
   have h1:=ac.read;rw[<-e1,hR.read] at h1;exact(uM h1).symm
  subst this;exact q db dg H1 (U.free ad) (U.free ae) (λb o h=>kept b o (U b o h) (qi h hx)) M1
variable {H1 H2:Hp}
def DA {m:Mc}(s:ig H H1)(v:Mv m H1 H2)(h1:H m.x=U_)(h2:H m.db=U_)(h3:H m.dg=U_):ig H H2:=λb o e=>v.kept b o (s b o e) (qi e h1) (qi e h2) (qi e h3)
def OD:#[C,9,a.f_does,a.d_does,["rule","own","run"],Nz]:=by
 have yR:=#[D4,T,C];have yb:=#[W7,T,C];have Qp:=#[oG,T];have qW:=#[kY,T];exists 9,T.EO,Dz
 erw[h,rv,own,tr,ta,us,ev,rs,r,gs,rfl,hv,hR,aa,Z,ac,ad,am,ie,hw,k];have hs:=uE;have au:=wM aa;exists 3,%[#[qH,(3),Dz.nd,#[X8,T.ZI,yb,T.Zy,T.iQ,Am,#v[pv 0,pv 1]]],#[qM,#[qr,AcE,#[qu,yR,hr.mono (),T.iP,#v[pv 3,#[qF,qA,pv 2]]],#[qD,qR,T.Yg,uQ,#v[#[qF,qA,pv 2]]]],%[|#[qq,YM]],qv]|#[qq,#[Za,#[Aaz,4,#[QE,pv 3,T.qp,T.il,qW]],#[XE,#[Qg,#[W0,1,hr.units],#[QE,pv 3,T.qp,T.iB,Qp],#[qF,qA,pv 2]]]]]]
 exists 8,N1,q1
 exists 0,0,λx dx hx ao nx=>Ms hv hR aa hx ao λdb dg H1 ap aq s1 M1=>[1:q1 _ _ ?_];exists 8,N2,q2
 exists 5
 refine⟨0,0,tr,_,_,0,1,SqT.of (s1 _ _ Z),qC (j:=0) rfl,⟨x,db,dg,rs,own⟩,R0 rs own,r,ta,us,gs,1,M1,LI hR,hR,by show ↑own<=100;omega,s1 _ _ ac,ad.mono s1.tk,am,λH2 mv M2 hO=>?_⟩
 have s2:ig H H2:=DA s1 mv hx ap aq
 exists 0,tr,_,_,0,1,SqT.of (s2 _ _ Z),qC (j:=0) rfl,ta,us,1,.inr (SqT.of (s2 _ _ ac)),_,0,1,0;rw[↑ad];refine iR (ug ()) (q2 _ _ ?_)
 erw[id M2,ae,af,_,_,_,_,ag,ah,_];erw[hO.two,wd,ed,U]
 exists 0,x,ae,af,1,ag,ah.meth _ (),⟨x,db,dg,rs,own⟩,r,1,M2,.inr [wd:ed:U]
 rw[hw]
 exists 0
 exists 0,lN rfl ?_;have O:nL [.str wd,ed]=true:=by
  have:=wR hO.gd.1;rw[U] at this
  simpa only [nD] using this
 have ak:dpL [.str wd,ed]<=60:=by
  have:=hO.gd.2;rw[U] at this;simp![dp] at this⊢;omega
 exists 0,x,ae,af,1,ag,ah.meth _ (),⟨x,db,dg,rs,own⟩,r,1,M2,λv5 i5=>?_
 have al:=ie.mono s2.tk;rw[U] at i5 al
 exists 0,tr,_,_,0,1,SqT.of (s2 _ _ Z),qC (j:=1) rfl,_,_,i5,al,O,O,ak;rw[(eqNL_iff O).mpr rfl];exact k _ s2
def KP:#[C,10,a.wH,a.ZJ,["rule","own","asks","end"],IS]:=by
 have O:=#[OD,T,C];have yR:=#[D4,T,C];have yb:=#[W7,T,C];have Qp:=#[oG,T];exists 9,T.mQ,zG
 erw[h,rv,own,ta,us,ev,rs,r,gs,en,rfl,hv,hR,Z,aa,ac,ad,ie,hE,k];have hs:=uE;have ay:=wM Z;exists 3,%[#[qM,#[qr,DU,#[qF,qA,pv 3],qm],%[|#[qq,#[qu,O,hr.mono (),T.EO,#v[pv 0,pv 1,#[qz,#v[pv 2,pv 3]]]]]],qv],#[qH,(4),zG.nd,#[X8,T.ZI,yb,T.Zy,T.iQ,Am,#v[pv 0,pv 1]]]|#[qq,#[Za,#[Qg,QW,#[qu,yR,hr.mono (),T.iP,#v[pv 4,pv 2]],#[qD,qR,T.Yg,uQ,#v[pv 2]]],#[XE,#[Qg,#[W0,1,hr.units],#[QE,pv 4,T.qp,T.iB,Qp],#[qz,#v[qm,#[qz,#v[qm,#[qF,qA,pv 3]]]]]]]]]]
 exists 8,N1,q1;rcases hE with⟨e0,hw,kk,ex,ee,hk⟩|⟨z,ee,ae⟩
 ·rw[ee] at ie;erw[id ie,te,ue,rfl,U,w1,r1,rfl,[rfl,af],ag]
  exists 0,te,_,_,0,1,SqT.of U,qC (j:=0) rfl,1,0,lN (by simpa using hk) ?_
  exists 0,0,0,0,sml rfl,λtr ah=>?_;have m1:=qf ah (.tup [.ref ta,.ref te])
  exists rv,own,tr,ta,us,.ref te,rs,r,gs,1,hv.mono m1.tk,hR,Z,qg,m1 _ _ aa,ac.mono m1.tk,ad,?_,hw,λH' s'=>k H' (m1.trans s');rw[<-e0,ee];exact ie.mono m1.tk
 ·rw[ee] at ie;erw[id ie,te,ue,rfl,U,w1,r1,rfl,[rfl,af],w2,r2,rfl,[rfl,ak],al];cases(show r2= [] from al)
  exists 0,te,_,_,0,1,SqT.of U,qC (j:=0) rfl,1,0,iR (by simp) (q1 _ _ ?_)
  exists 8,N2,q2
  exists 0,0,λx dx hx am nx=>Ms hv hR Z hx am λdb dg H1 ao ap s1 M1=>[1:q2 _ _ ?_]
  exists 5
  refine⟨0,0,⟨x,db,dg,rs,own⟩,R0 rs own,r,ta,us,gs,1,M1,LI hR,hR,by show ↑own<=100;omega,s1 _ _ aa,ac.mono s1.tk,ad,λH2 mv M2 hO=>?_⟩
  have s2:ig H H2:=DA s1 mv hx ao ap
  exists 0,ta,us,1,.inr (SqT.of (s2 _ _ aa)),1,0;rw[↑ac];refine lN (uh rfl) ?_;erw[id M2,aq,au,_,_,_,_,aw,ax,_]
  exists 0,x,aq,au,1,aw,ax.meth _ (),⟨x,db,dg,rs,own⟩,r,1,M2,λv5 i5=>?_
  exists 0,te,_,_,0,1,SqT.of (s2 _ _ U),qC (j:=1) rfl,sml rfl,λt1 h1=>[sml rfl:λt2 h2=>?_];have n1:=qf h1 (.tup [V.str "thing",V.str z]);have n2:=qf h2 (.tup [V.str "asks",V.ref t1]);have j1:=Is.new (ds:= [.str "thing",.str z]) ⟨_,0,Qb (),_,0,[1:ak],1⟩ h1
  have j2:=Is.new (ds:= [.str "asks",.tup [.str "thing",.str z]]) ⟨_,0,Qb (),_,0,j1,1⟩ h2
  rw[ae] at i5;have nl:nL [.str "asks",.tup [.str "thing",.str z]]=true:=rfl
  exists _,_,i5.mono (n1.trans n2).tk,j2,nl,nl,by simp[dpL,dp]
  rw[(eqNL_iff nl).mpr rfl];exact k _ ((s2.trans n1).trans n2)
inductive GoR (own:Str)(rl:D)(gs:List D)(en:D):Prop
 |lack (h0:yt rl=v_)(h1:gs= [])(h2:en=flt "lack"):GoR own rl gs en
 |bad (h0:yt rl=V1)(h1:QK rl=U_)(h2:gs= [])(h3:en=flt "rule"):GoR own rl gs en
 |run (rs:List Rw)(r:Rn)(h0:yt rl=V1)(h1:QK rl=u_ rs)(h3:CG rs own (R0 rs own) gs r)(h5:Adk r en):GoR own rl gs en
def Ac1 {r:Rn}{en:D}(h8:ThS r.th)(O:EnS en)(h4:en=r.th∨∃z,en=lP z/\r.th=Ab0 z):Adk r en:=by
 rcases h4 with h4|h4
 ·left;rcases O with⟨z,e⟩|⟨x,e,_⟩|⟨z,e⟩
  ·exact⟨h4,by rw[<-h4,e];exact(show decide (("fault":Str)="asks")=V1 by decide+kernel),_,_,e,()⟩
  ·exact⟨h4,by rw[<-h4,e];exact(show decide (("said":Str)="asks")=V1 by decide+kernel),_,_,e,()⟩
  ·rw[h4] at e;exact A8 e (Sj h8)
 ·exact .inr h4
variable {src:D}
def AcY {as:oq D}{en:D}(h:Fn qs own src as en)(O:EnS en):(∃z:Str,src= .tup [.str "made",.str z]/\as= []/\en=lP z)∨∃pre gs rl,Hs src pre rl/\as=pre++gs/\GoR own rl gs en:=by
 cases h with
 |wait z h0 h1 h2=>exact .inl ⟨z,h0,h1,h2⟩
 |lack pre rl h0 h1 h3 h4=>exact .inr ⟨pre,[],rl,h0,by rwa[uX],.lack h3 rfl h4⟩
 |bad pre rl h0 h1 h3 h5 h4=>exact .inr ⟨pre,[],rl,h0,by rwa[uX],.bad h3 h5 rfl h4⟩
 |run pre rl rs r h0 h1 h3 h5 h6 h7 h8 h4=>
  erw[Abu h6,gs,e,U];rw[show(R0 rs own).gs= [] from wl _ _ _ _,GS] at e
  rw[e] at h1;exact .inr ⟨pre,gs,rl,h0,h1,.run rs r h3 h5 U (Ac1 h8 O h4)⟩
def Ec:#[C,11,a.XD,a.Xg,["source","name","asks","end"],Ds]:=by
 have U:=#[KP,T,C];have wO:=#[oI,T,C];exists 9,T.mr,Yd
 erw[h,sv,own,ta,us,ev,qs,src,as,en,rfl,aw,aA,ad,ae,hF,ie,hE,aK,k];have hs:=uE;have two:=AcY hF hE;have O:∃kk e,src= .tup [.str kk,e]:=by
  rcases two with⟨z,h,_⟩|⟨_,_,_,⟨h,_⟩|⟨z,h,_⟩,_⟩
  ·exact[_:_:h]
  ·exact[_:_:h]
  ·exact[_:_:h]
 erw[O,kk,e0,O];rw[O] at aw;erw[aw,ts,uu,rfl,am,w1,r1,rfl,[rfl,_],w2,r2,rfl,ap,aB];cases(show r2= [] from aB)
 exists 3,%[#[qH,(4),Yd.nd,#[qF,qA,pv 0]],#[qM,#[qr,QW,#[qF,qA,pv 0],qm],%[#[qM,#[qr,#[kt,1,hr.units0],pv 2,#[qz,qd]],%[|#[qq,#[Qg,#[W0,1,hr.units],pv 3,#[qz,#v[qm,#[qF,qA,pv 0]]]]]],qv],#[qM,#[qr,#[Ka,1,hr.units],#[qF,qA,#[qF,qA,pv 2]],#[qz,#v[qm,#[qF,qA,pv 0]]]],%[|#[qq,YM]],qv],#[qH,(4),Yd.nd,#[qF,qA,#[qF,qA,pv 2]]]|#[qH,(2),Yd.nd,#[Xz,Dx,pv 2,#[zE,qk],Kb]]],qv],#[qM,#[qr,yl,pv 4,qQ],%[|#[qq,#[Za,#[Qg,#[kt,1,hr.units0],pv 2,#[qz,qd]],#[XE,#[Qg,#[W0,1,hr.units],pv 3,#[qz,#v[qm,qm]]]]]]],qv],#[qM,#[Qm,#[qZ,#[qu,wO,hr.mono (),T.mJ,#v[pv 4]]]],%[|#[qq,#[Za,#[Qg,#[kt,1,hr.units0],pv 2,#[qz,qd]],#[XE,#[Qg,#[W0,1,hr.units],pv 3,#[qz,#v[qm,qm]]]]]]],qv]|#[qq,#[qu,U,hr.mono (),T.mQ,#v[pv 4,pv 1,pv 2,pv 3]]]]
 exists 8,N1,q1
 exists 0,ts,_,_,0,1,SqT.of am,qC (j:=1) rfl,q1 _ _ ?_;exists 8,N2,q2;have ax:∀(Z:V) (rl:D) (gs:oq D) (af:o6) (ag:oq V) (H1:Hp),ig H H1->Is H1 rl Z->H1 af=u_ (.tup ag)->L2.IsL H1 gs ag->GoR own rl gs en->N2 [u_ (.ref ts),u_ (.str own),u_ (.ref af),u_ ev,u_ Z] H1:=by
  intro Z rl gs af ag H1 s1 ir ah aa ao;refine q2 _ _ ?_;exists 8,N3,q3
  exists 0,1,0;cases ao with
  |lack h0 h1 h2=>
   have aC:rl= .non:=by
    cases rl with
    |non=>rfl
    |_=>cases h0
   rw[aC] at ir;cases(show Z= .non from ir)
   refine lN (uh rfl) ?_;rw[h1] at aa;cases(show ag= [] from aa)
   exists 0,uY _,λt0 h0=>⟨af,t0,[],1,1,SqT.of (qf h0 _ _ _ ah),SqT.of qg,0,lN rfl ?_⟩;have m0:=qf h0 (.tup ([]:oq V))
   exists 0,sml rfl,λt1 h1=>?_;have m1:=qf h1 (.tup [V.str "fault",V.str "lack"]);have i1:=Is.new (ds:= [.str "fault",.str "lack"]) ⟨_,0,Qb (),_,0,Qb (),1⟩ h1
   have ac:=ie.mono ((s1.trans m0).trans m1).tk;rw[h2] at ac
   exists [.str "fault",.str "lack"],[.str "fault",.str "lack"],ac,i1,1,1,by simp[dpL,dp]
   rw[(eqNL_iff (show nL [.str "fault",.str "lack"]=v_ from rfl)).mpr rfl]
   exact k _ ((s1.trans m0).trans m1)
  |bad h0 h1 h2 h3=>
   have aq:Z≠ .non:=jB ir λz=>by rw[z] at h0;cases h0
   refine iR (ug aq) (q3 _ _ ?_);exists 8,N4,q4
   exists 0,Z,rl,1,ir,λH2 s2=>[0:?_];rw[h1];refine lq ?_;rw[h2] at aa;cases(show ag= [] from aa)
   exists 0,uY _,λt0 h0=>⟨af,t0,[],1,1,SqT.of (qf h0 _ _ _ (s2 _ _ ah)),SqT.of qg,0,lN rfl ?_⟩;have m0:=qf h0 (.tup ([]:oq V))
   exists 0,sml rfl,λt1 h1=>?_;have m1:=qf h1 (.tup [V.str "fault",V.str "rule"]);have i1:=Is.new (ds:= [.str "fault",.str "rule"]) ⟨_,0,Qb (),_,0,Qb (),1⟩ h1
   have sm:=((s1.trans s2).trans m0).trans m1;have ac:=ie.mono sm.tk;rw[h3] at ac
   exists [.str "fault",.str "rule"],[.str "fault",.str "rule"],ac,i1,1,1,by simp[dpL,dp]
   rw[(eqNL_iff (show nL [.str "fault",.str "rule"]=v_ from rfl)).mpr rfl]
   exact k _ sm
  |run rs r h0 h1 h3 h5=>
   have aq:Z≠ .non:=jB ir λz=>by rw[z] at h0;cases h0
   refine iR (ug aq) (q3 _ _ ?_);exists 8,N4,q4
   exists 0,Z,rl,1,ir,λH2 s2=>[0:?_];rw[h1];refine iU (q4 _ _ ?_);erw[Bf h1,hR,aD];rw[aD] at ir;exact⟨0,0,0,0,Z,own,af,ag,ev,rs,r,gs,en,1,ir.mono s2.tk,hR,aA,s2 _ _ ah,aa.mono s2.tk,h3,ie.mono (s1.trans s2).tk,h5,λH3 s3=>k _ ((s1.trans s2).trans s3)⟩
 exists 0,ts,_,_,0,1,SqT.of am,qC (j:=0) rfl,1,0;rcases two with⟨z,h,ha,aE⟩|⟨pre,gs,rl,⟨h,ak⟩|⟨z,h,ak⟩,ha,ao⟩
 ·rw[O] at h;cases h;erw[ap,rfl,au];refine lN (uh rfl) ?_;rw[ha] at ae;cases(show us= [] from ae)
  show ni _ _ _ _ H;exists 8,A1,a1
  exists 0,uY _,λt0 h0=>⟨ta,t0,[],1,1,SqT.of (qf h0 _ _ _ ad),SqT.of qg,0,lN rfl ?_⟩;have m0:=qf h0 (.tup ([]:oq V))
  exists 0,0,ts,_,_,0,1,SqT.of (m0 _ _ am),qC (j:=1) rfl,sml rfl,λt1 h1=>?_;have m1:=qf h1 (.tup [V.str "stuck",V.str z]);have i1:=Is.new (ds:= [.str "stuck",.str z]) ⟨_,0,Qb (),_,0,[1:au],1⟩ h1
  have ac:=ie.mono (m0.trans m1).tk;rw[aE] at ac
  exists [.str "stuck",.str z],[.str "stuck",.str z],ac,i1,1,1,by simp[dpL,dp]
  rw[(eqNL_iff (show nL [.str "stuck",.str z]=v_ from rfl)).mpr rfl]
  exact k _ (m0.trans m1)
 ·rw[O] at h;cases h;rw[ak,GS] at ha;rw[ha] at ae;refine iR (ug (λy=>by have:=V.str.inj y;revert this;decide+kernel)) (ax w2 _ gs ta us H (ig.refl _) ap ad ae ao)
 ·rw[O] at h;cases h;erw[ap,rfl,au];rw[ha,ak] at ae;obtain⟨v1,rr,rfl,i1,aF⟩:=(show∃v1 rr,us=v1::rr/\Is H (.tup [.tup [.str "rule",.str z],rl]) v1/\L2.IsL H gs rr from by
   erw[ae,v1,rr,e,h1,h2];exact⟨v1,rr,e,h1,h2⟩)
  erw[i1,tp,up,rfl,ay,x1,aL,rfl,aG,x2,aH,rfl,aI,aJ];cases(show aH= [] from aJ)
  refine lN (uh rfl) ?_;show ni _ _ _ _ H;exists 8,A1,a1
  exists 0,uY _,λt0 h0=>⟨ta,t0,0,1,SqT.of (qf h0 _ _ _ ad),SqT.of qg,0,iR rfl (a1 _ _ ?_)⟩;have m0:=qf h0 (.tup ([]:oq V));generalize upd H t0 (.tup [])=H1 at m0⊢;exists 8,A2,a2
  exists 0,ta,_,_,0,1,SqT.of (m0 _ _ ad),qC (j:=0) rfl,tp,_,_,0,1,SqT.of (m0 _ _ ay),qC (j:=0) rfl
  exists 0,ts,_,_,0,1,SqT.of (m0 _ _ am),qC (j:=1) rfl,sml rfl,λt1 h1=>?_;have m1:=qf h1 (.tup [V.str "rule",V.str z]);have j1:=Is.new (ds:= [.str "rule",.str z]) ⟨_,0,Qb (),_,0,[1:au],1⟩ h1
  exists [.str "rule",.str z],[.str "rule",.str z],aG.mono (m0.trans m1).tk,j1,1,1,by simp[dpL,dp],0
  rw[(eqNL_iff (show nL [.str "rule",.str z]=v_ from rfl)).mpr rfl]
  refine iU (a2 _ _ ?_);have al:=m0.trans m1;generalize upd H1 t1 (.tup [V.str "rule",V.str z])=H2 at al⊢;exists 8,A3,a3
  exists 0,ta,_,_,0,1,SqT.of (al _ _ ad),qC (j:=0) rfl,tp,_,_,0,1,SqT.of (al _ _ ay),qC (j:=1) rfl,a3 _ _ ?_
  exists 0,0,ta,0,SqT.of (al _ _ ad),λhw=>?_,λ_ pp hp=>?_
  ·exfalso;have h1:=hw.1;have h1:HT.sIx ↑(_::rr) 0 (u_ ((1:Nat):Int))=0:=h1;rw[HT.sIx_nat] at h1;rw[uB] at h1;omega
  ·have hc:sU (V.ref tp::rr) (u_ 1) U_=rr:=by
    rw[show(u_ (1:Int))=u_ ((1:Nat):Int) from rfl,ZD (by rw[uB];omega)]
    rfl
   rw[hc];have mp:=al.trans (qf hp (.tup rr));exact ax x2 rl gs pp rr _ mp (aI.mono mp.tk) qg (aF.mono mp.tk) ao
def Aa1 {K:o0}{b A:o6}{H1:Hp}{tg:TG}{tc:TT}{te:TE}{tl:L2.St}{Q:VK}{xs:oq V}(C:Nat->oq V->Hp->Prop)(hb:H1 b=u_ (.tup xs))(hn:↑xs<=V5)(h0:C 0 [] (upd H1 A (.lst [])))(hC:∀i ys H,C i ys H->ig H1 H)
  (aa:∀i x ys H O U,xs[i]? =u_ x->C i ys H->H A=u_ (.lst ys)->tg x (O::U::tl) H λσ2 H2=>tc σ2 H2 λc H3=>if c=v_ then te σ2 H3 λy H4=>H4 A=u_ (.lst ys)/\(∃u0 u1,σ2=u0::u1::tl)/\C (i+1) (ys++ [y]) (upd H4 A (.lst (ys++ [y]))) else H3 A=u_ (.lst ys)/\(∃u0 u1,σ2=u0::u1::tl)/\C (i+1) ys H3)
  (hQ:∀ys H,C ↑xs ys H->H A=u_ (.lst ys)->Q (.ref A) H):CS A (Itt K b) tg tc te (U_::U_::tl) H1 Q:=by
 exists ↑xs,λi σ ys H=>(∃O U,σ=O::U::tl)/\C i ys H,hn,[[U_:U_:1]:h0],?_,?_
 ·rintro i σ ys H hi ⟨⟨O,U,rfl⟩,Z⟩ hl hy;have sm:=hC _ _ _ Z;have e0:xs[i]? =u_ xs[i]:=uc hi;exists ⟨_,_,SqT.of (sm _ _ hb),e0⟩;rintro x H' ⟨rfl,hx⟩;have e:=hx _ (SqT.of (sm _ _ hb));exact aa i x ys H' O U e Z hl
 ·rintro σ ys H ⟨_,Z⟩ hl;exact[[_:SqT.of (hC _ _ _ Z _ _ hb):uA _]:hQ ys H Z hl]
nonrec def Xa (H:Hp)(d:o6)(ps:oq (Str×D)):Prop:=∃vs:oq (Str×V),H d=u_ (.dK (lh vs))/\vs.map (·.1)=ps.map (·.1)/\L2.IsL H (ps.map (·.2)) (vs.map (·.2))
variable {H':Hp}
def Xa.same {d:o6}{ps:oq (Str×D)}(h:Xa H d ps)(s:ig H H'):Xa H' d ps:=by
 erw[h,vs,h1,h2,h3];exact⟨vs,s _ _ h1,h2,h3.mono s.tk⟩
nonrec def Adl (qs ers:oq (Str×D))(kd z:Str)(an:D)(b:Bool):Prop:=(Se qs ers kd z an/\b=v_)∨(Sd qs ers kd z an/\b=V1)
inductive Wx (CP:Addr):Sp
 |mk (px ed t:Addr)(av:V)(kd z:Str)(an:D)(qs ers:List (Str×D))(b:Bool)(_:vs= [.ref px,.ref ed,.ref t,av])(_:H t=u_ (.tup [.str kd,.str z]))(_:Q7 CP H px qs)(_:Qw qs)(_:Xa H ed ers)(_:Is H an av)(_:↑z<=1000)(_:Adl qs ers kd z an b)(_:∀H',ig H H'->Q (.bl b) H')
inductive IP (CP:Addr):Sp
 |mk (px sd ed ts ta:Addr)(us:List V)(ev:V)(m:Str)(as:List D)(en:D)(qs ers es:List (Str×D))(b:Bool)(_:vs= [.ref px,.ref sd,.ref ed,.ref ts])(_:H ts=u_ (.tup [.str m,.ref ta,ev]))(_:H ta=u_ (.tup us))(_:L2.IsL H as us)(_:Is H en ev)(_:Q7 CP H px qs)(_:Qw qs)(_:Xa H sd es)(_:Xa H ed ers)(_:nm m=v_)(_:(Rst qs ers es m as en/\EnS en/\b=v_)∨(AbZ qs ers es m as en/\b=V1))(_:∀v H',ig H H'->(b=v_->v= .non)->(b=V1->∃w,v= .str w)->Q v H')
def sW (U:Qw qs){n:Str}{sv:V}(h1:n∈qs.map (·.1)->Is H (qB qs n) sv)(h2:n∉qs.map (·.1)->sv= .non):∃d,Is H d sv/\(d= .non∨∃k e,d= .tup [.str k,e])/\d=qB qs n/\yt (Yu d)=(g0D n (qB qs n)).isSome:=by
 by_cases c:n∈qs.map (·.1)
 ·erw[J5 U c,_,kk,e,hd,_];exists _,h1 c,.inr [kk:e:hd],1;rw[hd];unfold Yu g0D
  try dsimp only
  by_cases O:kk="leaf"
  ·rw[A6 O,A6 O];rfl
  ·rw[A4 O,A4 O];split<;>rfl
 ·exists .non,h2 c,.inl rfl,(Y7 c).symm;cases Z:g0D n (qB qs n) with
  |none=>rfl
  |some s=>exact A8 ((ya qs).gn n s Z) c
def Cs:#[C,5,a.jx,a.js,["project","earlier","ask","answer"],(Wx a.qG)]:=by
 have QG:=#[xw,T];have wQ:=#[oJ,T];have qK:=#[yN,T];have ye:=#[oH,T];refine T.lI.F.ok Y0 () (λ_ _ _ s H vs Q E hr h=>?_)
 erw[h,px,ed,t,av,kd,z,an,qs,ers,b,rfl,ht,hP,hq,hT,ia,a2,hA,k];have hs:=uE;exists 3,%[@qM _ _ _ _ _ _ _ _ #[Bh,7,#[qr,DU,#[qF,qA,pv 2],qm],#[ku,4,#[Qm,#[qZ,#[qu,QG,hr.mono (),T.iM,#v[#[qF,qA,pv 2]]]]]]].pt %[|#[qq,YM]] qv,#[qM,#[qr,8,Q9,#[qF,qA,pv 2],#[qz,#v[qm,qm]],#[w]],%[|#[qq,#[Qg,DZ hr.units,pv 3,#[Qf,pv 0,T.QS,T.iG,ye,#v[pv 2]]]]],qv],#[qM,#[qr,8,oA,#[qF,qA,pv 2],#[qz,#v[qm,qm]],#[w]],%[|#[qq,YM]],qv],#[qH,(4),Y0.nd,#[Qf,pv 0,T.QS,T.ii,qK,#v[#[qF,qA,pv 2]]]],#[qM,#[qZ,#[qu,wQ,hr.mono (),T.mK,#v[pv 4]]],%[|#[qq,#[Qg,DZ hr.units,#[kE,7,Qs hr,pv 1,#[qF,qA,pv 2],⟨1,1,1,1⟩],#[qz,#v[qm,pv 3]]]]],qv]|#[qq,#[Qg,DZ hr.units,pv 3,#[Q2,#[qr,yl,pv 4,qQ],qQ,#[qF,qA,pv 4]]]]]
 exists 8,N1,q1;have aM:kd≠"names"->nm z=true:=by
  rcases hA with⟨h,_⟩|⟨⟨_,h,_⟩,_⟩
  ·exact h.1
  ·exact λ_=>h
 have au:∀H1,ig H H1->N1 [u_ (.ref px),u_ (.ref ed),u_ (.ref t),u_ av,U_] H1:=by
  intro H1 s1;refine q1 _ _ ?_;have aw:=s1 _ _ ht;have ax:=hP.same s1;have aN:=hT.same s1;have aO:=ia.mono s1.tk;erw[id ax,ay,a3,op,a4,hx,_];exists 8,N2,q2
  exists 0,t,_,_,0,1,SqT.of aw,qC (j:=0) rfl,sml rfl,λl hl=>?_;have m2:=qf hl (.tup [V.str "has",V.str "names"])
  exists l,0,.inr (SqT.of qg),1,1,0;have s2:=s1.trans m2;have ad:=m2 _ _ aw;have af:=ax.same m2;have aA:=aN.same m2;have ag:=aO.mono m2.tk;have ah:=m2 _ _ hx;generalize upd H1 l (.tup [V.str "has",V.str "names"])=H2 at s2 ad af aA ag ah⊢;have rest:nw kd=V1->(kd="thing"∨kd="rule")->(g0D z (qB qs z)=U_->an=(oF (qB qs z)).getD .non/\b=v_)->(∀s,g0D z (qB qs z)=u_ s->(b=v_/\z∈ers.map (·.1)/\qB ers z= .tup [.str "said",an]/\isT an=v_)∨(b=V1/\isT an=v_/\(z∉ers.map (·.1)∨(z∈ers.map (·.1)/\∃y,qB ers z=lP y))))->N2 [u_ (.ref px),u_ (.ref ed),u_ (.ref t),u_ av,U_] H2:=by
   intro hk Z aP aB;refine q2 _ _ ?_;exists 8,N3,q3
   exists 0,t,_,_,0,1,SqT.of ad,qC (j:=0) rfl,sml rfl,λl2 aQ=>?_;have m3:=qf aQ (.tup [V.str "thing",V.str "rule"])
   exists l2,0,.inr (SqT.of qg),1,1,0;have aR:inV (V.str kd) [V.str "thing",V.str "rule"]=decide (kd∈(["thing","rule"]:oq Str)):=xT kd ["thing","rule"];refine iR (by rw[aR,uh (by rcases Z with rfl|rfl<;>simp)];rfl) (q3 _ _ ?_)
   have s3:=s2.trans m3;have ak:=m3 _ _ ad;have aC:=af.same m3;have aD:=aA.same m3;have al:=ag.mono m3.tk;have aE:=m3 _ _ ah;generalize upd H2 l2 (.tup [V.str "thing",V.str "rule"])=H3 at s3 ak aC aD al aE⊢;exists 8,N4,q4
   exists 0,px,ay,0,aE,yk,0,t,_,_,0,1,SqT.of ak,qC (j:=1) rfl,px,z,qs,1,aC,λsv h1 h2=>q4 _ _ ?_;exists 8,N5,q5;erw[sW hq h1 h2,d,aF,hd,aS,aT]
   exists 0,sv,d,1,aF,hd,λH4 s4=>[0:?_];rw[aT];have ac:=s3.trans s4;cases O:g0D z (qB qs z) with
   |some sz=>
    refine lN rfl ?_;erw[aD.same s4,vs,aa,aG,aU];have am:=s4 _ _ ak;have U:=al.mono s4.tk;by_cases cz:z∈ers.map (·.1)
    ·erw[oR aG aU cz,l1,l2];rcases aB sz O with⟨rfl,_,aH,hT⟩|⟨aV,ao,hn⟩
     ·rw[aH] at l2
      exists 0,ed,1,.inl [_:.inl aa],0,t,_,_,0,1,SqT.of am,qC (j:=1) rfl,_,mM.k (k:=V3 z) aa;rw[l1]
      exists 0,sml rfl,λt5 h5=>?_;have m5:=qf h5 (.tup [V.str "said",av]);have aI:=xb hT;refine .same (.tup [.str "said",an]) (l2.mono m5.tk) (Is.new (ds:= [.str "said",an]) ⟨_,0,Qb (),_,0,U,1⟩ h5) (.inr ?_) (by simp![dp,dpL];omega) (k _ (ac.trans m5))
      have h1:=LU (oY hT);show puL [.str "said",an]=v_;simp![puL,puD,h1,G_]
     ·rcases hn with hn|⟨_,y,hy⟩
      ·exact A8 cz hn
      subst aV;rw[hy] at l2
      exists 0,ed,1,.inl [_:.inl aa],0,t,_,_,0,1,SqT.of am,qC (j:=1) rfl,_,mM.k (k:=V3 z) aa;rw[l1]
      exists 0,sml rfl,λt5 h5=>?_;have m5:=qf h5 (.tup [V.str "said",av]);refine .tt [.str "stuck",.str y] [.str "said",an] (l2.mono m5.tk) (Is.new (ds:= [.str "said",an]) ⟨_,0,Qb (),_,0,U,1⟩ h5) rfl ?_ (by simp![dpL,dp];decide) ?_ (k _ (ac.trans m5))
      ·have:=wR (Ya ao);simp![nL,nD,this,G_]
      ·simp![eqNL,eqN];rw[show(("stuck":Str)=="said")=V1 from by decide+kernel,T6]
    ·rcases aB sz O with⟨_,hn,_⟩|⟨rfl,_⟩
     ·exact A8 hn cz
     ·exists 0,ed,1,.inl [_:.inl aa],0,t,_,_,0,1,SqT.of am,qC (j:=1) rfl,_,mM.k (k:=V3 z) aa;rw[oS (by rw[aG];exact cz)]
      exists 0,sml rfl,λt5 h5=>?_;exact .nt t5 _ rfl rfl qg (k _ (ac.trans (qf h5 _)))
   |none=>
    erw[aP O,ha,rfl];refine iR rfl (q5 _ _ ?_);have U:=al.mono s4.tk;have ae:=aF.mono s4.tk
    exists 0,0,1,0;by_cases c:z∈qs.map (·.1)
    ·erw[J5 hq c,_,kk,e,ap,_,aW];rw[ap] at O;have aJ:kk="leaf":=by
      by_cases ck:kk="leaf"
      ·exact ck
      ·unfold g0D at O
       try dsimp only at O
       rw[A4 ck] at O;split at O<;>cases O
     have hT:=(aW (by rw[aJ];decide+kernel)).2
     have aI:=xb hT;rw[aS,ap] at ae;erw[ae,ts,us,rfl,aX,w1,r1,rfl,_,w2,r2,rfl,aY,aZ];cases(show r2= [] from aZ)
     refine iR (ug (λz=>by cases z)) ?_
     exists 0,ts,_,_,0,1,SqT.of aX,qC (j:=1) rfl;have aq:an=e:=by
      rw[ha,ap,aJ]
      rfl
     rw[aq] at U;exact .same e U aY (.inr (oY hT)) () (k _ ac)
    ·cases h2 c;refine lN (uh rfl) ?_;have aq:an= .non:=by rw[ha,Y7 c];rfl
     rw[aq] at U;exact .same .non U rfl (.inl rfl) (by simp[dp]) (k _ ac)
  rcases hA with⟨⟨_,⟨hk,ha⟩|⟨hk,Z,hc⟩⟩,rfl⟩|⟨⟨Z,_,⟨sz,O⟩,ao,a1⟩,rfl⟩
  ·refine lN ((Abe kd).trans hk) ?_
   exists 0,0,px,ay,0,ah,oP,0,px,t,kd,z,qs,1,af,hq,ad,()
   have aK:=(W4 hq z hk).1;have aI:=xb aK;have fin:∀(v6:V) (H6:Hp),ig H2 H6->Is H6 (XZ qs kd z) v6->Aan av v6 H6 (λv H'=>Q v H'):=λv6 H6 s6 i6=> .same (XZ qs kd z) (by rw[<-ha];exact ag.mono s6.tk) i6 (.inr (oY aK)) () (k _ (s2.trans s6))
   have aL:kd="has"∨kd≠"has"/\kd="names":=by
    unfold nw at hk;by_cases c:kd="has"
    ·exact .inl c
    ·rw[ug c,HW] at hk;exact .inr [c:uq hk]
   rcases aL with c|⟨c',c⟩
   ·refine .inl [c:fin _ H2 (ig.refl _) ?_];unfold XZ;rw[A6 c];exact Qb (by split<;>decide)
   ·refine .inr [c:λv6 H6 s6 i6=>fin v6 H6 s6 ?_];unfold XZ;rwa[A4 c']
  ·refine iR ((Abe kd).trans hk) (rest hk Z (λh0=>?_) λs O=> .inl ?_)
   ·rcases hc with⟨_,h⟩|⟨⟨s,O⟩,_⟩
    ·exact[h:1]
    ·rw[h0] at O;cases O
   ·rcases hc with⟨h,_⟩|⟨_,h1,h2,h3⟩
    ·rw[O] at h;cases h
    ·exact⟨1,h1,h2,h3⟩
  ·have hk:nw kd=false:=by rcases Z with rfl|rfl<;>decide+kernel
   refine iR ((Abe kd).trans hk) (rest hk Z (λh0=>?_) λs O=> .inr [1:ao:a1]);rw[O] at h0;cases h0
 exists 0,t,_,_,0,1,SqT.of ht,qC (j:=0) rfl,1,0;by_cases ck:kd="names"
 ·exact iR (by simp[ck]) (iR rfl (au H (ig.refl _)))
 ·refine lN (by simpa using ck) ?_
  exists 0,t,_,_,0,1,SqT.of ht,qC (j:=1) rfl,.str z,.str z,1,Qb (),λH1 s1=>[0:?_]
  have e:my (.str z)=true:=aM ck;rw[e];exact iU (au H1 s1)
def AbE {bs:oq Bool}(h:∀b∈bs,b=v_):bs.all id=true:=List.all_eq_true.mpr h
def AbF {bs:oq Bool}(h:V1∈bs):bs.all id=false:=by
 cases e:bs.all id with
 |false=>rfl
 |true=>exact A8 (List.all_eq_true.mp e V1 h) ()
nonrec def RtA (qs ers:oq (Str×D))(x:D):Prop:=∃kd z an,x= .tup [.tup [.str kd,.str z],an]/\Se qs ers kd z an
nonrec def rtB (qs ers:oq (Str×D)) (x:D):Bool:= @decide (RtA qs ers x) (Tj _)
def NK (h:Se qs ers kd z an):rtB qs ers (.tup [.tup [.str kd,.str z],an])=true:=by
 exact@uh _ (Tj _) ⟨kd,z,an,1,h⟩
def Aaf (h:Sd qs ers kd z an):rtB qs ers (.tup [.tup [.str kd,.str z],an])=false:=by
 refine@ug _ (Tj _) λ zq=>?_;erw[zq,O,Z,U,e,h'];cases e;exact kA h h'
def KN:#[C,12,a.zX,a.Zd,["project","ends","earlier","step"],(IP a.qG)]:=by
 have zD:=#[Cs,T,C];have wQ:=#[oJ,T];have qK:=#[yN,T];have W2:=#[Ec,T,C];refine T.mz.F.ok YB () (λ_ _ _ s H vs Q E hr h=>?_)
 erw[h,px,sd,ed,ts,ta,us,ev,m,as,en,qs,ers,es,b,rfl,ae,aw,ag,ie,hP,hq,hS,hT,ax,hc,k];have hs:=uE;have bb:=wM ax;have ay:m∉ers.map (·.1):=by
  rcases hc with⟨h,_⟩|⟨h,_⟩
  ·exact h.nin
  ·exact h.1
 have aA:∃s,g0D m (qB qs m)=u_ s:=by
  rcases hc with⟨h,_⟩|⟨h,_⟩
  ·exact h.run
  ·exact h.2.1
 have ah:∀x∈as,∃kd z an,x= .tup [.tup [.str kd,.str z],an]/\↑z<=1000/\Adl qs ers kd z an (rtB qs ers x):=by
  have right:∀{U},Rst qs ers U m as en->∀x∈as,∃kd z an,x= .tup [.tup [.str kd,.str z],an]/\↑z<=1000/\Adl qs ers kd z an (rtB qs ers x):=λh x hx=>by
   erw[h.asks x hx,kd,z,an,rfl,hl,hA];exact⟨kd,z,an,1,hl,.inl [hA:NK hA]⟩
  rcases hc with⟨h,_⟩|⟨⟨_,_,⟨h,_⟩|⟨U,h,_⟩⟩,_⟩
  ·exact right h
  ·intro x hx;obtain⟨kd,z,an,rfl,hl,hA|hA⟩:=h x hx
   ·exact⟨kd,z,an,1,hl,.inl [hA:NK hA]⟩
   ·exact⟨kd,z,an,1,hl,.inr [hA:Aaf hA]⟩
  ·exact right h
 erw[id hP,aM,bc,op,bd,hx,_];have aB:↑us=↑as:=↑ag;exists 3,%[#[qH,(4),YB.nd,#[qF,qA,pv 3]],#[qH,(5),YB.nd,#[qF,qA,pv 3]],#[qH,(6),YB.nd,#[Qf,pv 0,T.QS,T.ii,qK,#v[pv 4]]],@qM _ _ _ _ _ _ _ _ #[JU,#[wI,#[Wk,Qs hr,pv 4,pv 2]],#[Y3,#[Qm,#[qZ,#[qu,wQ,hr.mono (),T.mK,#v[pv 6]]]]]].pt %[|#[qq,qm]] qv,#[qM,#[Qm,#[qZ,#[qD,#[Xn,1,rfl],T.z_all,Hg,#v[#[wB,["ask","answer","project","earlier"],(2),[0,2],Lk (qj Y9) ["project","ends","earlier","step","name","end","source"],#[wc,#[qF,qA,pv 3]],(λ_ _ _ _ _ _=>#[DO,1,K,3,(2),1,rfl,rfl,QD #[qN,(0),(show Vi (["ask","answer","project","earlier"]:oq Str) by decide+kernel)] (QD #[qN,(1),(show Vi (["ask","answer","project","earlier"]:oq Str) by decide+kernel)] xx),_,_]),(λ_ _ _ _ _ _=> @yS _),(λ_ _ _ _ _ _=>#[qu,zD,hr.mono (),T.lI,#v[pv 2,pv 3,pv 0,pv 1]])]]]]],%[|#[qq,qm]],qv],#[qM,#[Qm,#[qZ,#[qu,W2,hr.mono (),T.mr,#v[pv 6,pv 4,#[qF,qA,pv 3],pv 5]]]],%[|#[qq,qm]],qv],@qM _ _ _ _ _ _ _ _ #[Bh,7,#[qr,QW,#[qF,qA,pv 5],qm],@ku _ _ _ _ #[JU,#[wI,#[DP,5,Qs hr,#[qF,qA,pv 5],pv 1]],#[Y3,#[qr,QW,#[qF,qA,#[Qc,pv 1,#[qF,qA,pv 5]]],qm]]].pt].pt %[|#[qq,qm]] qv|#[qq,qQ]]
 exists 8,N1,q1
 exists 0,ts,_,_,0,1,SqT.of ae,qC (j:=0) rfl,q1 _ _ ?_;exists 8,N2,q2
 exists 0,ts,_,_,0,1,SqT.of ae,qC (j:=2) rfl,q2 _ _ ?_;exists 8,N3,q3
 exists 0,px,aM,0,hx,yk,0,px,m,qs,1,hP,λsv h1 h2=>q3 _ _ ?_;exists 8,N4,q4;erw[sW hq h1 h2,d,aC,hd,aN,aO];erw[id hT,vs,aP,aQ,aR]
 exists 0,0,ed,0,mM.k (k:=V3 m) aP,0;rw[AA aQ aR m];refine iR (ug ay) ?_
 exists 0,sv,d,1,aC,hd,λH1 s1=>[0:?_];erw[aA,sm,hg];rw[aO,hg];refine iU (q4 _ _ ?_);exists 8,N5,q5;have aD:=s1 _ _ ae;have af:=s1 _ _ aw
 exists 0,ts,_,_,0,1,SqT.of aD,qC (j:=1) rfl,ta,us,1,SqT.of af,λaS A0 aE=>?_;refine Aa1 (tl:= [u_ (.ref px),u_ (.ref ed)]) (λi ys H'=>ys=((as.take i).map (rtB qs ers)).map V.bl/\ig H1 H') af aS [1:qf aE _] (λi ys H' h=>h.2) ?_ ?_
 ·rintro i x ys H' w0 w1 hx ⟨rfl,s'⟩ aT;have hi:i<↑as:=by rw[<-aB];exact(Ag.mp hx).1
  erw[ag.get (i:=i) (d:=as[i]) (uc hi),x',aF,ix];rw[hx] at aF;cases aF;erw[ah _ (uV hi),kd,z,an,e,aG,O];have ak:=s1.trans s';rw[e] at ix;erw[ix.mono ak.tk,t6,w6,rfl,aU,x7,r7,rfl,i7,x8,r8,rfl,i8,aV];cases(show r8= [] from aV)
  erw[i7,t7,w7,rfl,aW,x9,r9,rfl,[rfl,bf],xa,ra,rfl,[rfl,a9],aX];cases(show ra= [] from aX)
  exists t6,0,SqT.of aU,1
  exists _,0,_,0,1
  try dsimp![YV,sS,gN]
  rw[A6 rfl]
  exists 0,0,0,0,px,ed,t7,x8,kd,z,an,qs,ers,0,aW,hP.same ak,hq,hT.same ak,i8,aG,O,λH3 s3=>?_
  exists 5
  refine⟨s3 _ _ aT,[_:0],?_,λb o e=>by rw[qh (qi e aE)];exact s3 _ _ (s' _ _ e)⟩
  rw[vc,uc hi,um,um]
  rfl
 rintro ys H2 ⟨rfl,s2⟩ aY
 exists A0,0,SqL.of aY;rw[aB,vU];have aa:=s1.trans s2;have al:((as.map (rtB qs ers)).all id=V1/\b=V1)∨((as.map (rtB qs ers)).all id=v_/\∃U,Rst qs ers U m as en/\EnS en/\((b=v_/\U=es)∨(b=V1/\∃z,en=lP z/\(z∉es.map (·.1)∨(z∈es.map (·.1)/\∃x,qB es z= .tup [.str "said",x]))))):=by
  have right:∀{U},Rst qs ers U m as en->(as.map (rtB qs ers)).all id=true:=λh=>AbE λb Z=>by
   erw[Ae.mp Z,x,hx,rfl];erw[h.asks x hx,kd,z,an,rfl,_,hA];exact NK hA
  rcases hc with⟨h,hE,Z⟩|⟨⟨_,_,⟨_,kd,z,an,aZ,hW⟩|⟨U,h,hE,hz⟩⟩,Z⟩
  ·exact .inr ⟨right h,es,h,hE,.inl [Z:1]⟩
  ·exact .inl [AbF (Ae.mpr [_:aZ:Aaf hW]):Z]
  ·exact .inr ⟨right h,U,h,hE,.inr [Z:hz]⟩
 rcases al with⟨e0,rfl⟩|⟨e0,U,hR,hE,O⟩
 ·rw[e0];exact⟨0,lq (k _ _ aa (λz=>by cases z) λ_=>⟨0⟩)⟩
 rw[e0]
 exists 0,iU (q5 _ _ ?_);exists 8,N6,q6;have aH:=aa _ _ aw;have aI:=aa _ _ ae
 exists 0,0,0,ts,_,_,0,1,SqT.of aI,qC (j:=1) rfl,0,sv,m,ta,us,ev,qs,qB qs m,as,en,1,(by rw[<-aN];exact aC.mono aa.tk),ax,aH,ag.mono aa.tk,hR.fin,ie.mono aa.tk,hE,[hR.nd.2.2.1:hR.nd.2.2.2],λH3 s3=>[0:iU (q6 _ _ ?_)]
 exists 8,N7,q7;have ac:=aa.trans s3;have a1:=ie.mono ac.tk;have a2:∃kk x,en= .tup [.str kk,x]:=by
  rcases hE with⟨z,e⟩|⟨x,e,_⟩|⟨z,e⟩
  ·exact[_:_:e]
  ·exact[_:_:e]
  ·exact[_:_:e]
 erw[a2,kk,ex,ad];have aJ:=a1;rw[ad] at aJ;erw[aJ,te,ue,rfl,am,v1,r1,rfl,[rfl,_],v2,r2,rfl,a3,a4];cases(show r2= [] from a4)
 exists 0,te,_,_,0,1,SqT.of am,qC (j:=0) rfl,1,0;by_cases ck:kk="stuck"
 ·refine lN (uh (by rw[ck])) ?_
  obtain⟨z,hz⟩:∃z,en=lP z:=by
   rcases hE with⟨z,e⟩|⟨x,e,_⟩|⟨z,e⟩
   ·rw[ad] at e;injection e with e
    injection e with e _
    injection e with e
    rw[ck] at e;exact A8 e ()
   ·rw[ad] at e;injection e with e
    injection e with e _
    injection e with e
    rw[ck] at e;exact A8 e ()
   ·exact[z:e]
  have ao:=hz;rw[ad] at hz;unfold lP at hz;cases hz;erw[a3,rfl,aG];erw[hS.same ac,bg,aK,aL,a5]
  exists 0,te,_,_,0,1,SqT.of am,qC (j:=1) rfl,0,sd,0,mM.k (k:=V3 z) aK,0;by_cases cz:z∈es.map (·.1)
  ·erw[oR aL a5 cz,l1,l2];have ap:∃k' x',qB es z= .tup [.str k',x']/\(b=v_/\k'≠"said"∨b=V1/\k'="said"):=by
    rcases O with⟨Z,rfl⟩|⟨Z,z',aq,au⟩
    ·erw[hR.stk z ao,_,k',x',e1,e2];exact⟨k',x',e1,.inl [Z:e2]⟩
    ·rw[ao] at aq;unfold lP at aq;cases aq;rcases au with au|⟨_,x,e⟩
     ·exact A8 cz au
     ·exact⟨_,x,e,.inr [Z:1]⟩
   erw[ap,k',x',ap,a6];rw[ap] at l2;erw[l2,tz,uz,ez,a7,y1,z1,rfl,[rfl,_],_];rw[ez] at l1;rw[l1];refine iR rfl ?_
   exists 0,0,te,_,_,0,1,SqT.of am,qC (j:=1) rfl,sd,0,(by rw[<-l1];exact mM.k (k:=V3 z) aK),tz,_,_,0,1,SqT.of a7,qC (j:=0) rfl,1,0
   rcases a6 with⟨rfl,a8⟩|⟨rfl,rfl⟩
   ·exact iR (ug (λy=>a8 (V.str.inj y))) (q7 _ _ (k _ _ ac (λ_=>rfl) λz=>by cases z))
   ·exact lN (uh rfl) (k _ _ ac (λz=>by cases z) λ_=>⟨0⟩)
  ·rw[oS (by rw[aL];exact cz)]
   have Z:b=false:=by
    rcases O with⟨_,rfl⟩|⟨Z,_⟩
    ·exact A8 (hR.stk z ao).1 cz
    ·exact Z
   subst Z;exact lN rfl (k _ _ ac (λz=>by cases z) λ_=>⟨0⟩)
 ·have Z:b=true:=by
   rcases O with⟨Z,_⟩|⟨_,z,hz,_⟩
   ·exact Z
   ·rw[ad] at hz;unfold lP at hz;cases hz;exact A8 rfl ck
  exact iR (ug (λy=>ck (V.str.inj y))) (iR rfl (q7 _ _ (k _ _ ac (λ_=>rfl) λz=>by rw[Z] at z;cases z)))
inductive IW:Sp
 |mk (t:Addr)(us:List V)(ps:Pp)(_:vs= [.ref t])(_:H t=u_ (.tup us))(_:L2.IsL H (ps.map stD) us)(_:((lS ps).map (·.1)).Nodup)(_:↑ps<=1000)(_:∀d H',H d=U_->ig H H'->Xa H' d (lS ps)->Q (.ref d) H')
nonrec def GdS (qs:oq (Str×D))(ps:Pp)(i:Nat)(s:Str×oq D×D):Prop:=Rst qs ((lS ps).take i) (lS ps) s.1 s.2.1 s.2.2/\EnS s.2.2
nonrec def PpB (qs:oq (Str×D))(ps:Pp)(b:Bool):Prop:=↑ps<=1000/\(∀s∈ps,nm s.1=v_)/\((lS ps).map (·.1)).Nodup/\(∀i s,ps[i]? =u_ s->(∀j s',j<i->ps[j]? =u_ s'->GdS qs ps j s')->GdS qs ps i s∨AbZ qs ((lS ps).take i) (lS ps) s.1 s.2.1 s.2.2)/\(b=v_↔∀i s,ps[i]? =u_ s->GdS qs ps i s)
inductive Du (CP:Addr):Sp
 |mk (px t:Addr)(us:List V)(qs:List (Str×D))(ps:Pp)(b:Bool)(_:vs= [.ref px,.ref t])(_:H t=u_ (.tup us))(_:L2.IsL H (ps.map stD) us)(_:Q7 CP H px qs)(_:Qw qs)(_:PpB qs ps b)(_:∀v H',ig H H'->(b=v_->v= .non)->(b=V1->v≠ .non)->Q v H')
nonrec def shD (qs:oq (Str×D)) (ps:Pp) (n:Str):D:=if n∈(lS ps).map (·.1) then yn (qB (lS ps) n) else Yu (qB qs n)
inductive IR (CP bn:Addr):Sp
 |mk (px t:Addr)(us:List V)(n:Str)(qs:List (Str×D))(ps:Pp)(b:Bool)(_:vs= [.ref px,.ref t,.str n])(_:H t=u_ (.tup us))(_:L2.IsL H (ps.map stD) us)(_:Q7 CP H px qs)(_:Qw qs)(_:PpB qs ps b)(_:↑n<=1000)(_:nm n=v_->∀v H',ig H H'->Is H' (if b=v_ then shD qs ps n else .non) v->Q v H')(_:nm n=V1->∀(e:Addr)(H':Hp),ig H H'->E_ (.ref e) (u_ bn) H')
def E4 (ps:Pp):↑(lS ps)=↑ps:=by unfold lS;rw[u9]
variable {i:Nat}
def Pl {ps:Pp}(hi:i<↑ps):(lS ps)[i]? =u_ (ps[i].1,ps[i].2.2):=by
 unfold lS;rw[uC,uc hi]
 rfl
def Pk {ps:Pp}(hi:i<↑ps)(O:((lS ps).map (·.1)).Nodup):ps[i].1∉((lS ps).take i).map (·.1):=by
 intro z;erw[Ag.mp (Pl hi),U,Z];have:=O;rw[<-vP i (lS ps),uU U,um,Uc] at this;exact this.2.2 _ z _ (by rw[uD,Z];exact ui) rfl
variable {es:oq (Str×D)}
def Xa.put {d:o6}{vs:oq (Str×V)}(h1:H d=u_ (.dK (lh vs)))(h2:vs.map (·.1)=es.map (·.1))(h3:L2.IsL H (es.map (·.2)) (vs.map (·.2)))(hm:m∉es.map (·.1))(U:Is H e v):Xa (upd H d (.dK (lm (lh vs) (V3 m) v))) d (es++ [(m,e)]):=by
 have O:lm (lh vs) (V3 m) v=lh (vs++ [(m,v)]):=by
  rw[Xl _ (oS (by rwa[h2]))]
  unfold lh;rw[um]
  rfl
 have tk:=Tk.updD (ys:=lm (lh vs) (V3 m) v) h1;exists vs++ [(m,v)],by rw[qg,O],?_,?_
 ·rw[um,um,h2]
  rfl
 ·rw[um,um];exact(h3.mono tk).append (L2.IsL.one (U.mono tk))
def Bt:#[T,1,a.Zc,a.zY,["paper"],IW]:=by
 refine T.lW.F.ok yG () (λ_ _ _ _ H vs Q E hr h=>?_)
 erw[h,t,us,ps,rfl,ht,Z,af,hl,k];have hs:=uE;have aa:↑us=↑ps:=by rw[↑Z,u9]
 exists 3,%[#[qH,(1),yG.nd,jL],#[yJ,#[pi_tup,pv 0],#[Wl,QD #[qN,(2),yG.nd] (QD #[qN,(3),yG.nd] (QD #[qN,(4),yG.nd] xx))],%[|#[qY,#[KF,9,pv 1,pv 2,pv 4,⟨1,1,1,1⟩]]]]|#[qq,pv 1]]
 exists 8,N1,q1;refine λd hd=>q1 _ _ ?_;have m0:=qf hd (.dK ([]:oq (Key×V)));have ac:Xa (upd H d (.dK [])) d []:=⟨[],qg,1,1⟩;generalize upd H d (.dK [])=H0 at m0 ac⊢;exists 8,N2,q2
 exists 0,t,1,[_:SqT.of (m0 _ _ ht)]
 let J_:Nat->L2.St->Hp->Prop:=λi σ H'=>(∃u2 u3 u4,σ= [u_ (.ref t),u_ (.ref d),u2,u3,u4])/\ig H H'/\Xa H' d ((lS ps).take i)
 refine Z8 (xs:=us) J_ [[_:_:0]:m0:ac] (λi σ H' _ h=>SqT.of (h.2.1 _ _ ht)) ?_ ?_
 ·rintro i x σ H1 hx ⟨⟨u2,u3,u4,rfl⟩,s1,vs,O,U,ag⟩;have hi:i<↑ps:=by rw[<-aa];exact(Ag.mp hx).1
  obtain⟨x',ad,ix⟩:=Z.get (i:=i) (d:=stD ps[i]) (by rw[uC,uc hi];rfl)
  rw[hx] at ad;cases ad;erw[ix,tt,ut,rfl,ah,y1,r1,rfl,[rfl,_],y2,r2,rfl,_,y3,r3,rfl,i3,ak];cases(show r3= [] from ak)
  exists tt,0,SqT.of (s1 _ _ ah),1,_,0,_,0,_,0,1;have ae:=Pk hi af;have al:↑vs<=1000:=by
   have:=A9 Vv U;rw[u9,u9,vy,E4] at this;omega
  exists 5
  refine⟨0,d,1,.inl [_:.inl O],0,0,lh vs,V3 ps[i].1,O,1,by unfold lh;rw[u9];omega,λv hv=>?_,λ_=>?_⟩
  ·rw[oS (by rwa[U])] at hv
   cases hv
  ·exists [_:_:0],λb o e=>?_,?_
   ·rw[qh (qi e hd)];exact s1 _ _ e
   ·have:=Xa.put O U ag ae (i3.mono s1.tk);rw[vc,Pl hi];exact this
 ·rintro σ H1 ⟨⟨u2,u3,u4,rfl⟩,s1,hT⟩;refine q2 _ _ [0:k d H1 hd s1 ?_];rwa[aa,<-E4,vU] at hT
def oK:#[C,13,a.Xp,a.XX,["project","paper"],(Du a.qG)]:=by
 have Jl:=#[Bt,T];have O:=#[KN,T,C];refine T.iH.F.ok QU () (λ_ _ _ s H vs Q E hr h=>?_)
 erw[h,px,t,us,qs,ps,b,rfl,ht,Z,hP,hq,[hl,aw,ad,hB,ae],k];have hs:=uE;have af:↑us=↑ps:=by rw[↑Z,u9]
 exists 3,%[#[qH,(2),QU.nd,#[qu,Jl,hr.mono (),T.lW,#v[pv 1]]],#[qH,(3),QU.nd,jL],#[yJ,#[Bl,8,_,T.ZN,pv 1,_],#[Wl,QD #[qN,(4),QU.nd] (QD #[qN,(5),QU.nd] xx)],%[#[qH,(6),QU.nd,#[qu,O,hr.mono (),T.mz,#v[pv 0,pv 2,pv 3,pv 5]]],#[qM,#[qr,xp,pv 6,qQ],%[|#[qq,#[qz,#v[pv 4,pv 6]]]],qv]|#[jj,pv 3,#[qF,qA,pv 5],#[qF,qA,pv 5]]]]|#[qq,qQ]]
 exists 8,N1,q1
 exists 0,t,us,ps,1,ht,Z,ad,hl,λsd H1 aI s1 hS=>q1 _ _ ?_;exists 8,N2,q2;refine λed ag=>q2 _ _ ?_;have m2:=qf ag (.dK ([]:oq (Key×V)));have ah:Xa (upd H1 ed (.dK [])) ed []:=⟨[],qg,1,1⟩;have s2:=s1.trans m2;have ax:=hS.same m2;generalize upd H1 ed (.dK [])=H2 at m2 ah s2 ax⊢;exists 8,N3,q3
 exists 0,t,us,1,SqT.of (s2 _ _ ht),λhsz=>?_
 let J_:Nat->L2.St->Hp->Prop:=λi σ H'=>(∃u4 u5 u6,σ= [u_ (.ref px),u_ (.ref t),u_ (.ref sd),u_ (.ref ed),u4,u5,u6])/\ig H1 H'/\Xa H' ed ((lS ps).take i)/\∀j s,j<i->ps[j]? =u_ s->GdS qs ps j s
 refine MG (c:=0) (xs:=us) J_ ⟨[_:_:0],m2,ah,λj s hj=>A8 hj (HX j)⟩ (λi σ H' hi h=>SqT.of (h.2.1 _ _ (s1 _ _ ht))) ?_ ?_
 ·rintro i y σ H' p hy ⟨⟨u4,u5,u6,rfl⟩,s',ak,U⟩ hp;have hi:i<↑ps:=by rw[<-af];exact(Ag.mp hy).1
  obtain⟨y',al,iy⟩:=Z.get (i:=i) (d:=stD ps[i]) (by rw[uC,uc hi];rfl)
  rw[hy] at al;cases al;have m4:=qf hp (.tup [.int (0+(i:Int)),y]);have e4:(upd H' p (.tup [.int (0+(i:Int)),y])) p=u_ (.tup [.int (0+(i:Int)),y]):=qg;have s4:=s'.trans m4;have aa:=ak.same m4;generalize upd H' p (.tup [.int (0+(i:Int)),y])=H4 at m4 e4 s4 aa⊢;have am:=s1.trans s4;erw[iy.mono am.tk,tt,ut,rfl,ac,y1,r1,rfl,[rfl,_],y2,r2,rfl,i2,y3,r3,rfl,i3,ay];cases(show r3= [] from ay)
  erw[i2,ta,ua,rfl,aA,aB]
  exists p,0,SqT.of e4,1,_,0,_,0,1;show ni _ _ _ _ H4;exists 8,B1,b1;have aC:=Pk hi ad;obtain⟨bi,aD,ao⟩:∃bi:Bool,((Rst qs ((lS ps).take i) (lS ps) ps[i].1 ps[i].2.1 ps[i].2.2/\EnS ps[i].2.2/\bi=v_)∨(AbZ qs ((lS ps).take i) (lS ps) ps[i].1 ps[i].2.1 ps[i].2.2/\bi=V1))/\(bi=v_->GdS qs ps i ps[i])/\(bi=V1->b=V1):=by
   by_cases c:GdS qs ps i ps[i]
   ·exact⟨v_,.inl [c.1:c.2:1],λ_=>c,λz=>by cases z⟩
   ·exists V1,.inr [(hB i _ (uc hi) U).resolve_left c:1],λz=>(by cases z),λ_=>?_
    cases b with
    |false=>rfl
    |true=>exact A8 (ae.mp rfl i _ (uc hi)) c
  exists 0,0,0,0,px,sd,ed,tt,ta,ua,y3,ps[i].1,ps[i].2.1,ps[i].2.2,qs,(lS ps).take i,lS ps,bi,1,ac,aA,aB,i3,hP.same am,hq,hS.same s4,aa,aw _ (uV hi),aD,λwv H5 s5 aE aF=>b1 _ _ ?_;exists 8,B2,b2
  exists 0,1,0;have ap:=s4.trans s5;cases bi with
  |false=>
   erw[aF rfl,wz,rfl];have aG:=ao.2 rfl;subst aG;refine lN rfl ?_
   exists 0,0,sml rfl,λt6 h6=>?_;exact k _ _ ((s1.trans ap).trans (qf h6 _)) (λz=>by cases z) (λ_ z=>by cases z)
  |true=>
   cases aE rfl;refine iR rfl (b2 _ _ ?_);erw[aa.same s5,vs,aq,au,aH];have aJ:↑vs<=1000:=by
    have:=A9 Vv au;rw[u9,u9,vy,E4] at this;omega
   exists 0,tt,_,_,0,1,SqT.of (s5 _ _ ac),qC (j:=2) rfl,0,0,tt,_,_,0,1,SqT.of (s5 _ _ ac),qC (j:=0) rfl,ed,0,CQ.k (k:=V3 ps[i].1) aq (by unfold lh;rw[u9];omega),[_:_:0],λb o e=>?_,?_,λj s hj hs=>?_
   ·rw[qh (qi e ag)];exact ap _ _ e
   ·have:=Xa.put aq au aH aC (i3.mono s5.tk);rw[vc,Pl hi];exact this
   ·by_cases cj:j<i
    ·exact U j s cj hs
    ·have:j=i:=by omega
     subst this;rw[uc hi] at hs;cases hs;exact ao.1 rfl
 ·rintro σ H' ⟨⟨u4,u5,u6,rfl⟩,s',ak,U⟩;refine q3 _ _ (k _ _ (s1.trans s') (λ_=>rfl) λhb=>?_);have:b=true:=ae.mpr λi s hs=>U i s (by rw[af];exact(Ag.mp hs).1) hs
  rw[this] at hb;cases hb
end
def ER {kk:Str}{ee:D}:g0D m (.tup [.str kk,ee])=U_↔kk="leaf":=by
 unfold g0D;simp only;constructor
 ·intro h;by_cases c:kk="leaf"
  ·exact c
  ·rw[A4 c] at h;split at h<;>cases h
 ·intro h;rw[A6 h]
nonrec def SR (i:Int):Str:=Ve i
nonrec def rK (k:Nat):Str:="r"++SR (k:Int)
nonrec def iK (k:Nat):Str:="i"++SR (k:Int)
nonrec def RW:oq Str:=(Va 40).map rK++(Va 3).map iK
nonrec def NMS:oq Str:=RW++(["leaf","beside"]:oq Str)
def Mo:NMS.Nodup:=by decide+kernel
def yK:∀z∈NMS,nm z=v_/\↑z<=6/\isT (.str z)=v_/\↑z<=300/\z.cps.toList.all QV=true:=by decide+kernel
def Db:∀k:Nat,k<41->↑(SR (k:Int))<=4:=by decide+kernel
def Yx (h:z∈RW):z∈NMS:=vh _ h
def Kw (h:z∈RW):z≠"leaf"/\z≠"beside":=by
 have:=Mo;unfold NMS at this;rw[Uc] at this;exact⟨λe=>this.2.2 z h "leaf" (by simp) e,λe=>this.2.2 z h "beside" (by simp) e⟩
nonrec def cR (z:Str):oq Rw:= [("text",[.s "a",.s z]),("ask",[.s "b",.s "a"]),("say",[.s "b"])]
nonrec def cL (z:Str):oq Str:= ["text a "++z,"ask b a","say b"]
def Iq:∀z∈NMS,(cR z).map yM=cL z/\isT (.tup ((cL z).map D.str))=v_/\lw (.tup ((cL z).map D.str))=v_/\sz (.tup ((cL z).map D.str))<=300/\∀y∈cL z,↑y<=100:=by decide+kernel
def Abw (hz:z∈NMS):yE (cR z)= .tup ((cL z).map D.str):=by
 rw[<-(Iq z hz).1,uO]
 rfl
def Abv (hz:z∈NMS):QL (cR z):=by
 refine⟨by show 1<=3;decide,by show 3<=40;decide,?_,by rw[Abw hz];exact(Iq z hz).2.1⟩
 intro r O;have O:r∈([("text",[.s "a",.s z]),("ask",[.s "b",.s "a"]),("say",[.s "b"])]:oq Rw):=O;simp![uH,uI,uS] at O;have U:=yK z hz;rcases O with rfl|rfl|rfl
 ·exact⟨[.box,.words],(show(("text":Str),[Kd.box,Kd.words])∈FRM by decide+kernel),show("a":Str)∈BX by decide+kernel,[U.2.2.2.1:U.2.2.2.2],trivial⟩
 ·exact⟨[.box,.box],(),show("b":Str)∈BX by decide+kernel,show("a":Str)∈BX by decide+kernel,trivial⟩
 ·exact⟨[.box],(),show("b":Str)∈BX by decide+kernel,trivial⟩
nonrec def m7 (z:Str):D:= .tup [.str "rule",yE (cR z)]
nonrec def Iz (z:Str):D:= .tup [.str "made",.str z]
nonrec def lfX:D:= .tup [.str "leaf",.str "x"]
def Dg (hz:z∈NMS):kK (m7 z):=by
 have h:=Iq z hz;exact AY (.inr rfl) (Abv hz).tree (by rw[Abw hz];exact h.2.2.1) (by rw[Abw hz];exact h.2.2.2.1)
def Na (hz:z∈NMS):kK (Iz z):=IM (yK z hz).1
def AaY:kK lfX:=AY (.inl rfl) () () ()
nonrec def asB:oq D:= [.tup [.tup [.str "thing",.str "leaf"],.str "x"]]
nonrec def enX:D:= .tup [.str "said",.str "x"]
def O9 {B:Str->D}{p:Int}(h:isT e=v_):W6 B z e p= .go (l9 B z e) (p+1):=by
 cases e with
 |non=>exact A8 h ()
 |_=>exact A6 h
def L5 (B:Str->D)(z:Str)(e:D):l9 B z e z=e:=A6 rfl
nonrec def thA (z:Str):D:= .tup [.str "asks",.tup [.str "thing",.str z]]
def Aby (h:nm z=v_):nu "ask" (.str z)=thA z:=by
 show(if("ask":Str)="names" then _ else if my (.str z)=v_ then D.tup [.str "asks",.tup [.str (if("ask":Str)="ask" then "thing" else "has"),.str z]] else flt "name")=_
 rw[A4 (),A6 (show my (.str z)=v_ from h),A6 rfl]
 rfl
def EB {f:Sy.Orc}{n:Str}{p:Gp}{k:Nat}(O:g0D n (qB qs n)=u_ g)(h:Sy.it (SyP qs) f k g=p)(U:p.en.isSome=v_):Sy.it (SyP qs) f 302 g=p:=by
 have h1:(SyP qs).fin (Sy.it (SyP qs) f k g)=true:=by rwa[h]
 rw[<-h];exact Sy.it_one (Sy.it_end (ya qs) 302 g ((ya qs).l0 n g O)) h1
def Dd {f:Sy.Orc}{p:Gp}(O:p.en=U_)(U:y6 p=u_ m):Sy.step (SyP qs) f p=match f m with
  |some a=>QX p (a.getD .non)
  |none=>Dc p m:=by
 have e:Sy.step (SyP qs) f p=if p.en.isSome=v_ then p else match y6 p with
  |none=>sT qs p
  |some m=>match f m with
   |some a=>QX p (a.getD .non)
   |none=>Dc p m:=rfl
 rw[e,O,U]
 rfl
variable {n:Nat}
def NJ {gs:oq D}{f:Nat}{B O:Str->D}{p p':Int}(U:p<=(↑rs:Int))(h:me own (Yp rs p) B p= .go O p'):mn rs own gs (f+1) B p n=mn rs own gs f O p' (n+1):=by
 show(if p>(↑rs:Int) then _ else match me own (Yp rs p) B p with
  | .go O p'=>mn rs own gs f O p' (n+1)
  | .stop e=>⟨B,p,if Qx e=v_ then n else n+1,gs,e⟩)=_
 rw[A4 (show¬p>(↑rs:Int) by omega),h]
def DD {gs:oq D}{f:Nat}{B:Str->D}{p:Int}(U:p<=(↑rs:Int))(h:me own (Yp rs p) B p= .stop e):mn rs own gs (f+1) B p n=⟨B,p,if Qx e=v_ then n else n+1,gs,e⟩:=by
 show(if p>(↑rs:Int) then _ else match me own (Yp rs p) B p with
  | .go O p'=>mn rs own gs f O p' (n+1)
  | .stop e=>⟨B,p,if Qx e=v_ then n else n+1,gs,e⟩)=_
 rw[A4 (show¬p>(↑rs:Int) by omega),h]
def Adq (hz:z∈NMS):R0 (cR z) own=⟨l9 B0 "a" (.str z),(2),(1),[],thA z⟩/\l8 (cR z) own ⟨l9 B0 "a" (.str z),(2),(1),[],thA z⟩ (.str "x")=⟨l9 (l9 B0 "a" (.str z)) "b" (.str "x"),(3),(3),[.tup [.tup [.str "thing",.str z],.str "x"]],enX⟩:=by
 have U:=yK z hz;have Z:me own (Yp (cR z) 1) B0 1= .go (l9 B0 "a" (.str z)) 2:=(show W6 B0 "a" (.str z) 1=_ from O9 U.2.2.1)
 have e2:me own (Yp (cR z) 2) (l9 B0 "a" (.str z)) 2= .stop (thA z):=(show Out.stop (nu "ask" (l9 B0 "a" (.str z) "a"))=_ by rw[L5,Aby U.1])
 have e3:me own (Yp (cR z) 3) (l9 (l9 B0 "a" (.str z)) "b" (.str "x")) 3= .stop enX:=(show Out.stop (.tup [.str "said",l9 (l9 B0 "a" (.str z)) "b" (.str "x") "b"])=_ by rw[L5];rfl)
 have O:(↑(cR z):Int)=3:=rfl;constructor
 ·unfold R0;rw[NJ (f:=299) (by rw[O];decide) Z,DD (f:=298) (by rw[O];decide) e2]
  rfl
 ·unfold l8;rw[show yt (.str "x")=V1 from rfl,A4 ub]
  show mn (cR z) own [.tup [.tup [.str "thing",.str z],.str "x"]] (297+1) (l9 (l9 B0 "a" (.str z)) "b" (.str "x")) 3 2=_;rw[DD (f:=297) (by rw[O];decide) e3]
  rfl
def EQ (hz:z∈NMS):g0D own (m7 z)=u_ ⟨own,.non,[],u_ (cR z,⟨l9 B0 "a" (.str z),(2),(1),[],thA z⟩),U_⟩:=by
 show(if("rule":Str)="leaf" then U_ else if("rule":Str)="made" then u_ (⟨own,yE (cR z),[],U_,U_⟩:Gp) else u_ (ml ⟨own,.non,[],U_,U_⟩ (yE (cR z))))=_
 rw[A4 (),A4 ()]
 unfold ml;rw[show yt (yE (cR z))=V1 from rfl,A4 ub,(Abv hz).read]
 show u_ (⟨own,.non,[],u_ (cR z,R0 (cR z) own),mY (R0 (cR z) own)⟩:Gp)=_;rw[(Adq hz).1]
 rfl
def Pf:g0D own (Iz z)=u_ ⟨own,.str z,[],U_,U_⟩:=by
 show(if("made":Str)="leaf" then U_ else if("made":Str)="made" then u_ (⟨own,.str z,[],U_,U_⟩:Gp) else u_ (ml ⟨own,.non,[],U_,U_⟩ (.str z)))=_
 rw[A4 (),A6 rfl]
nonrec def Wt1 (qs:oq (Str×D))(n m:Str):Prop:=∃g,g0D n (qB qs n)=u_ g/\g.en=U_/\y6 g=u_ m/\JW g= []
def MR {n:Str}(hz:z∈NMS)(h:qB qs n=m7 z):Wt1 qs n z:=⟨_,by rw[h];exact EQ hz,1,1,1⟩
def MS {n:Str}(h:qB qs n=Iz z):Wt1 qs n z:=⟨_,by rw[h];exact Pf,1,1,1⟩
def Ad5 {f:Sy.Orc}:Sy.it (SyP qs) f 1 g=Sy.step (SyP qs) f g:=rfl
def Mx {f:Sy.Orc}{n:Str}(O:g0D n (qB qs n)=u_ g)(U:g.en=U_)(Z:y6 g=u_ m)(hf:f m=U_):Sy.it (SyP qs) f 302 g=Dc g m:=by
 refine EB (k:=1) O ?_ rfl;show Sy.step (SyP qs) f g=_;rw[Dd U Z,hf]
section
variable {qs:oq (Str×D)}{nx:oq (Str×Str)}
structure RG (qs:oq (Str×D))(nx:oq (Str×Str)):Prop where
 nd:(nx.map (·.1)).Nodup
 nms:∀p∈nx,p.1∈RW
 sub:∀p∈nx,p.2∈nx.map (·.1)
 dat:∀p∈nx,qB qs p.1=m7 p.2∨qB qs p.1=Iz p.2
 lf:qB qs "leaf"=lfX
 bs:qB qs "beside"=m7 "leaf"
def RG.to (h:RG qs nx){p:Str×Str}(O:p∈nx):∃q∈nx,q.1=p.2:=by
 erw[Ae.mp (h.sub p O),q,U,e];exact[q:U:e]
def RG.nm2 (h:RG qs nx){p:Str×Str}(O:p∈nx):p.2∈RW:=by
 erw[h.to O,q,U,e];rw[<-e];exact h.nms q U
def RG.wt (h:RG qs nx){p:Str×Str}(O:p∈nx):Wt1 qs p.1 p.2:=by
 rcases h.dat p O with e|e
 ·exact MR (Yx (h.nm2 O)) e
 ·exact MS e
def Kv (g:Gp)(m:Str):Zu (Dc g m)=none:=(show(if("stuck":Str)="said" then u_ (D.str m) else U_)=U_ from A4 ())
def RG.fh (h:RG qs nx):∀k,∀p∈nx,Sy.Fh (SyP qs) k p.1=none:=by
 intro k
 induction k with
 |zero=>
  intro p O;erw[h.wt O,g,U,_];simp![Sy.Fh,show(SyP qs).g0 p.1=u_ g from U]
 |succ k Z=>
  intro p O;erw[h.wt O,g,U,he,hw,_];erw[h.to O,q,hq,e];simp![Sy.Fh,show(SyP qs).g0 p.1=u_ g from U]
  show((Zu (Sy.it (SyP qs) (Sy.Fh (SyP qs) k) 302 g)).map u_:ot (ot D))=U_;rw[Mx U he hw (by rw[<-e];exact Z q hq),Kv]
  rfl
def RG.fp (h:RG qs nx){p:Str×Str}(O:p∈nx):FP qs p.1=none:=by
 cases e:FP qs p.1 with
 |none=>rfl
 |some a=>
  erw[(Sy.F_iff (ya qs)).mp e,k,e];rw[h.fh k p O] at e;cases e
def RG.run (h:RG qs nx){p:Str×Str}(U:p∈nx):∃g,g0D p.1 (qB qs p.1)=u_ g/\JW (itP qs 302 g)= []/\Ab3 (itP qs 302 g)=lP p.2/\MN qs p.1=lP p.2:=by
 erw[h.wt U,g,O,Z,hw,ha];erw[h.to U,q,hq,e];have e3:itP qs 302 g=Dc g p.2:=Mx O Z hw (by rw[<-e];exact h.fp hq)
 refine⟨g,O,by rwa[e3],by rw[e3];rfl,?_⟩
 rw[LG O (e:=lP p.2) (by rw[e3];rfl)]
 exact(show(if("stuck":Str)="said" then D.tup [.str "value",.str p.2] else .tup [.str "stuck",.str p.2])=_ from A4 ())
def RG.beside (h:RG qs nx):∃g,g0D "beside" (qB qs "beside")=u_ g/\JW (itP qs 302 g)=asB/\Ab3 (itP qs 302 g)=enX:=by
 have Z:g0D "leaf" (qB qs "leaf")=none:=by rw[h.lf];exact ER.mpr rfl
 have hF:FP qs "leaf"=u_ (u_ (.str "x")):=(Sy.F_once (ya qs) Z).trans (by show u_ (oF (qB qs "leaf"))=_;rw[h.lf];rfl)
 have O:("leaf":Str)∈NMS:=by decide+kernel
 have U:g0D "beside" (qB qs "beside")=u_ ⟨"beside",.non,[],u_ (cR "leaf",⟨l9 B0 "a" (.str "leaf"),(2),(1),[],thA "leaf"⟩),U_⟩:=by rw[h.bs];exact EQ O
 have e2:itP qs 302 ⟨"beside",.non,[],u_ (cR "leaf",⟨l9 B0 "a" (.str "leaf"),(2),(1),[],thA "leaf"⟩),U_⟩=⟨"beside",.non,[],u_ (cR "leaf",⟨l9 (l9 B0 "a" (.str "leaf")) "b" (.str "x"),(3),(3),asB,enX⟩),u_ enX⟩:=by
  refine EB (f:=FP qs) (k:=1) U ?_ rfl;refine Ad5.trans ?_;rw[Dd (m:="leaf") rfl rfl,hF];show(⟨"beside",.non,[],u_ (cR "leaf",l8 (cR "leaf") "beside" ⟨l9 B0 "a" (.str "leaf"),(2),(1),[],thA "leaf"⟩ (.str "x")),mY (l8 (cR "leaf") "beside" ⟨l9 B0 "a" (.str "leaf"),(2),(1),[],thA "leaf"⟩ (.str "x"))⟩:Gp)=_;rw[(Adq O).2]
  rfl
 exact⟨_,U,by rw[e2];rfl,by rw[e2];rfl⟩
nonrec def stW (p:Str×Str):Str×oq D×D:=(p.1,[],lP p.2)
nonrec def stB:Str×oq D×D:=("beside",asB,enX)
nonrec def stS (k:Str)(t:D)(p:Str×Str):Str×oq D×D:=(p.1,[.tup [.tup [.str k,.str p.2],t]],.tup [.str "said",t])
variable {es:oq (Str×D)}
def RG.rstW (U:Qw qs)(h:RG qs nx){p:Str×Str}(Z:p∈nx)(h1:p.1∉ers.map (·.1))(h2:p.2∈es.map (·.1))(h3:∃y,qB es p.2=lP y):Rst qs ers es p.1 [] (lP p.2)/\EnS (lP p.2):=by
 erw[h.run Z,g,O,ha,he,_];erw[h3,y,hy];refine⟨⟨h1,[g:O],(λx hx=>by cases hx),?_,(),⟨1,(),1,by show dp (lP p.2)<=20;simp[lP,dp,dpL]⟩,λz hz=>?_⟩,.inr (.inr ⟨0⟩)⟩
 ·rw[<-ha,<-he];exact E1 U O
 ·unfold lP at hz;cases hz;exact⟨h2,"stuck",_,hy,()⟩
def RG.rstB (U:Qw qs)(h:RG qs nx)(h1:("beside":Str)∉ers.map (·.1)):Rst qs ers es "beside" asB enX/\EnS enX:=by
 erw[h.beside,g,O,ha,Z];exists ⟨h1,[g:O],λx hx=>?_,?_,(),⟨1,by simp[asB,dpL,dp],1,by simp[enX,dp,dpL]⟩,λz hz=>?_⟩,.inr (.inl [0:()])
 ·cases Ab.mp hx;exists "thing","leaf",0,(),λ_=>by decide+kernel,.inr [():.inl rfl:.inl [?_:?_]]
  ·rw[h.lf];exact ER.mpr rfl
  ·rw[h.lf];rfl
 ·rw[<-ha,<-Z];exact E1 U O
 ·unfold enX lP at hz;injection hz with hz
  injection hz with hz _
  injection hz with hz
  exact A8 hz ()
def RG.badW (Z:Qw qs)(h:RG qs nx){p:Str×Str}(O:p∈nx)(h1:p.1∉ers.map (·.1))(h2:p.2∉es.map (·.1)∨(p.2∈es.map (·.1)/\∃x,qB es p.2= .tup [.str "said",x])):AbZ qs ers es p.1 [] (lP p.2):=by
 erw[h.run O,g,hg,_];have U:=h.rstW Z O (ers:=ers) (es:= [(p.2,lP p.2)]) h1 ui [p.2:zP (List.nodup_cons.mpr [uI:vC]) ui];exact[h1:[g:hg]:.inr ⟨_,U.1,U.2,p.2,1,h2⟩]
def RG.askW (h:RG qs nx){p:Str×Str}(O:p∈nx){k:Str}{t:D}(Z:k="thing"∨k="rule")(ht:isT t=v_)(h2:p.2∉ers.map (·.1)∨(p.2∈ers.map (·.1)/\∃y,qB ers p.2=lP y)):Sd qs ers k p.2 t:=by
 erw[h.to O,q,hq,e];erw[h.run hq,g,U,_];rw[e] at U;exact⟨Z,(yK _ (Yx (h.nm2 O))).1,[g:U],ht,h2⟩
def RG.badS (h:RG qs nx){p:Str×Str}(O:p∈nx){k:Str}{t:D}(Z:k="thing"∨k="rule")(ht:isT t=v_)(h1:p.1∉ers.map (·.1))(h2:p.2∉ers.map (·.1)∨(p.2∈ers.map (·.1)/\∃y,qB ers p.2=lP y)):AbZ qs ers es p.1 [.tup [.tup [.str k,.str p.2],t]] (.tup [.str "said",t]):=by
 erw[h.run O,g,hg,_];have U:=h.askW O Z ht h2;have hl:=(yK _ (Yx (h.nm2 O))).2.1;exact⟨h1,[g:hg],.inl ⟨λx hx=>by cases Ab.mp hx;exact⟨_,_,0,(),.inr U⟩,_,_,_,Ab.mpr rfl,U⟩⟩
def Wd (R:Pp):(lS R).map (·.1)=R.map (·.1):=by
 unfold lS;rw[uO]
 rfl
def Abd {l:Pp}(O:(l.map (·.1)).Nodup){s:Str×oq D×D}(U:s∈l):qB (lS l) s.1=s.2.2:=zP (by rwa[Wd]) (Ae.mpr [s:U:1])
nonrec def StK (nx:oq (Str×Str))(p0:Str×Str)(k:Str)(t:D)(s:Str×oq D×D):Prop:=(∃p∈nx,s=stW p)∨s=stB∨s=stS k t p0
variable {p0:Str×Str}
def Pm (h:RG qs nx){k:Str}{t:D}{l:Pp}(U:(l.map (·.1)).Nodup)(Z:∀s∈l,StK nx p0 k t s)(hz:z∈l.map (·.1))(hr:z∈RW):(∃y,qB (lS l) z=lP y)∨(z=p0.1/\stS k t p0∈l/\qB (lS l) z= .tup [.str "said",t]):=by
 erw[Ae.mp hz,s,O,rfl];rw[Abd U O];rcases Z s O with⟨p,_,rfl⟩|rfl|rfl
 ·exact .inl ⟨0⟩
 ·exact A8 rfl (Kw hr).2
 ·exact .inr [1:O:1]
variable {i:Nat}
def Pz {ps:Pp}(hn:(ps.map (·.1)).Nodup){s:Str×oq D×D}(O:ps[i]? =u_ s):s.1∉((lS ps).take i).map (·.1):=by
 erw[Ag.mp O,hi,rfl];exact Pk hi (by rwa[Wd])
def Acb (ps:Pp)(i:Nat):(lS ps).take i=lS (ps.take i):=by unfold lS;rw[<-t_]
def Bq (hq:Qw qs)(h:RG qs nx)(Z:p0∈nx){k:Str}{t:D}(hk:k="thing"∨k="rule")(ht:isT t=v_){ps:Pp}(hn:(ps.map (·.1)).Nodup)(hl:↑ps<=1000)(hs:∀s∈ps,StK nx p0 k t s){b:Bool}(hb:b=v_↔(stS k t p0∉ps/\∀p∈nx,stW p∈ps->p.2∈ps.map (·.1))):PpB qs ps b:=by
 have ad:∀i,((ps.take i).map (·.1)).Nodup:=λi=>hn.sublist ((TW i ps).map _);have ae:∀i,∀s∈ps.take i,StK nx p0 k t s:=λi s aa=>hs s (List.mem_of_mem_take aa);have wS:∀i,ps[i]? =u_ (stS k t p0)->p0.2∉((lS ps).take i).map (·.1)∨(p0.2∈((lS ps).take i).map (·.1)/\∃y,qB ((lS ps).take i) p0.2=lP y):=λi hi=>by
  have O:=Pz hn hi;rw[Acb] at O⊢;by_cases c:p0.2∈(lS (ps.take i)).map (·.1)
  ·refine .inr [c:?_];rcases Pm h (ad i) (ae i) (by rwa[<-Wd]) (h.nm2 Z) with e|⟨e,_⟩
   ·exact e
   ·rw[e] at c;exact A8 c O
  ·exact .inl c
 refine⟨hl,λs aa=>?_,by rwa[Wd],λi s hi _=>?_,hb.trans [λhc i s hi=>?_:λhg=>[λac=>?_:λp U ac=>?_]]⟩
 ·rcases hs s aa with⟨p,U,rfl⟩|rfl|rfl
  ·exact(yK _ (Yx (h.nms p U))).1
  ·exact(by decide+kernel:nm "beside"=v_)
  ·exact(yK _ (Yx (h.nms p0 Z))).1
 ·have O:=Pz hn hi;rcases hs s (uN hi) with⟨p,U,rfl⟩|rfl|rfl
  ·by_cases c:p.2∈(lS ps).map (·.1)
   ·rcases Pm h hn hs (by rwa[<-Wd]) (h.nm2 U) with e|⟨_,_,e⟩
    ·exact .inl (h.rstW hq U O c e)
    ·exact .inr (h.badW hq U O (.inr [c:_:e]))
   ·exact .inr (h.badW hq U O (.inl c))
  ·exact .inl (h.rstB hq O)
  ·exact .inr (h.badS Z hk ht O (wS i hi))
 ·have O:=Pz hn hi;rcases hs s (uN hi) with⟨p,U,rfl⟩|rfl|rfl
  ·have c:=hc.2 p U (uN hi);rcases Pm h hn hs c (h.nm2 U) with e|⟨_,e,_⟩
   ·exact h.rstW hq U O (by rwa[Wd]) e
   ·exact A8 e hc.1
  ·exact h.rstB hq O
  ·exact A8 (uN hi) hc.1
 ·erw[vV ac,i,hi];erw[(hg i _ hi).1.asks _ (Ab.mpr rfl),kd,z,an,e,_,hA];cases e;exact kA (h.askW Z hk ht (wS i hi)) hA
 ·erw[vV ac,i,hi];rw[<-Wd];exact((hg i _ hi).1.stk p.2 rfl).1
def AbD (h:RG qs nx){kf:Str×Str->Str}{t:D}(hk:∀p,kf p="thing"∨kf p="rule")(ht:isT t=v_){ps:Pp}(hn:(ps.map (·.1)).Nodup)(hl:↑ps<=1000)(h0:0<↑ps)(hs:∀s∈ps,∃p∈nx,s=stS (kf p) t p):PpB qs ps false:=by
 have O:ps[0]? =u_ ps[0]:=uc h0;erw[hs _ (uV h0),p,hp,e0];rw[e0] at O;have no:¬GdS qs ps 0 (stS (kf p) t p):=λU=>by
  erw[U.1.asks _ (Ab.mpr rfl),kd,z,an,e,_,hA];cases e;exact kA (h.askW hp (hk p) ht (.inl uI)) hA
 refine⟨hl,λs Z=>?_,by rwa[Wd],λi s hi U=>?_,⟨λz=>(by cases z),λU=>A8 (U 0 _ O) no⟩⟩
 ·erw[hs s Z,q,hq,rfl];exact(yK _ (Yx (h.nms q hq))).1
 ·cases i with
  |zero=>
   rw[O] at hi;cases hi;exact .inr (h.badS hp (hk p) ht uI (.inl uI))
  |succ i=>exact A8 (U 0 _ (Hh i) O) no
def NG {ps:Pp}(hn:(ps.map (·.1)).Nodup){s:Str×oq D×D}(O:s∈ps):shD qs ps s.1=yn s.2.2:=by
 unfold shD;rw[A6 (by rw[Wd];exact Ae.mpr [s:O:1]),Abd hn O]
def S9 (h:RG qs nx){p:Str×Str}(O:p∈nx){ps:Pp}(hn:p.1∉ps.map (·.1)):shD qs ps p.1= .non:=by
 unfold shD;rw[A4 (by rwa[Wd])]
 rcases h.dat p O with e|e
 ·rw[e];exact(show(if("rule":Str)="leaf" then D.tup [.str "value",yE (cR p.2)] else .non)= .non from A4 ())
 ·rw[e];exact(show(if("made":Str)="leaf" then D.tup [.str "value",.str p.2] else .non)= .non from A4 ())
def Iv (z:Str):yn (lP z)=lP z:=(show(if("stuck":Str)="said" then D.tup [.str "value",.str z] else .tup [.str "stuck",.str z])=_ from A4 ())
def ans_X':yn enX= .tup [.str "value",.str "x"]:=(show(if("said":Str)="said" then D.tup [.str "value",.str "x"] else .tup [.str "said",.str "x"])=_ from A6 rfl)
end
def kg {d:o6}{o:Obj}{kvs:oq (Key×V)}{g:TG}{tb:TS}{D:mL}{σ:L2.St}{H:Hp}(U:Nat->L2.St->Hp->Prop)(h0:U 0 σ H)(hl:∀i σ H,i<=↑kvs->U i σ H->H d=u_ (.frz o (.dK kvs)))
  (hs:∀i p σ H,kvs[i]? =u_ p->U i σ H->g (kV p.1) σ H λZ H2=>tb {D with nx:=U (i+1),ct:=U (i+1),bk:=D.nx} Z H2) (hd:∀σ H,U ↑kvs σ H->D.nx σ H):
  ∃W:Nat->Nat->L2.St->Hp->Prop,(∃m,W 0 m σ H)/\∀i m σ H,W i m σ H->
   ((Itd d o).stop i H/\D.nx σ H)∨((Itd d o).go i H/\∃N:L2.St->Hp->Prop,(∀σ' H',N σ' H'->∃m',m'<m/\W (i+1) m' σ' H')/\∀x H',(Itd d o).yld i H x H'->g x σ H' λZ H2=>tb {D with nx:=N,ct:=N,bk:=D.nx} Z H2):=by
 exists λi m σ H=>m=↑kvs-i/\i<=↑kvs/\U i σ H,⟨↑kvs,by simp,uY _,h0⟩
 rintro i m σ H ⟨rfl,hi,p⟩;have q:=hl i σ H hi p;by_cases O:i<↑kvs
 ·refine .inr ⟨[kvs:q:O],U (i+1),λσ' H' p'=>⟨↑kvs-(i+1),(),1,O,p'⟩,λx H' y=>?_⟩
  erw[y,rfl,y];have y:=y kvs q;rw[uC,uc O] at y;cases y;exact hs i _ σ _ (uc O) p
 ·have e:i=↑kvs:=by omega
  subst e;exact .inl [[kvs:q:uA _]:hd σ H p]
def O2 {d A:o6}{o:Obj}{H1:Hp}{te:TE}{tl:L2.St}{Q:VK}{kvs:oq (Key×V)}{ls:oq Str}(C:Nat->oq V->Hp->Prop)(hd:H1 d=u_ (.frz o (.dK kvs)))(hk:kvs.map (·.1)=ls.map V3)(hn:↑ls<=V5)(h0:C 0 [] (upd H1 A (.lst [])))(hC:∀i ys H,C i ys H->ig H1 H)
  (U:∀i z ys H,ls[i]? =u_ z->C i ys H->H A=u_ (.lst ys)->∀R:VK,(∀y H4,H4 A=u_ (.lst ys)->C (i+1) (ys++ [y]) (upd H4 A (.lst (ys++ [y])))->R y H4)->te (u_ (.str z)::tl) H R)
  (hQ:∀ys H,C ↑ls ys H->H A=u_ (.lst ys)->Q (.ref A) H):CS A (Itd d o) (YV 0) sS te (U_::tl) H1 Q:=by
 have aa:↑kvs=↑ls:=by
  have:=A9 Vv hk
  simpa using this
 exists ↑ls,λi σ ys H=>(∃w,σ=w::tl)/\C i ys H,hn,[[U_:1]:h0],?_,?_
 ·rintro i σ ys H hi ⟨⟨w,rfl⟩,O⟩ Z hy;have sm:=hC _ _ _ O;exists [kvs:sm _ _ hd:()]
  rintro x H' ⟨rfl,hx⟩;have e:=hx kvs (sm _ _ hd);have e2:(kvs.map λp=>kV p.1)[i]? =u_ (V.str ls[i]):=by
   have:(kvs.map λp=>kV p.1)=(kvs.map (·.1)).map kV:=by rw[uO];rfl
   rw[this,hk,uO,uC,uc hi]
   rfl
  rw[e2] at e;cases e
  try dsimp![YV,sS,gN]
  rw[A6 rfl];exact U i ls[i] ys H' (uc hi) O Z _ λy H4 h4 c4=>[h4:⟨0⟩:c4]
 ·rintro σ ys H ⟨_,O⟩ Z;exact[[kvs:hC _ _ _ O _ _ hd:()]:hQ ys H O Z]
nonrec def nxV (nx:oq (Str×Str)):oq (Key×V):=nx.map λp=>(V3 p.1,V.str p.2)
def AaV (nx:oq (Str×Str)):(nxV nx).map (·.1)=(nx.map (·.1)).map Sum.inr:=by
 unfold nxV;rw[uO,uO]
 rfl
def wg:∀{nx:oq (Str×Str)}{p:Str×Str},(nx.map (·.1)).Nodup->p∈nx->iJ (nxV nx) (V3 p.1)=u_ (.str p.2)
 |q::r,p,hn,hp=>by
  rw[uD,U0] at hn;rcases Aa.mp hp with rfl|hp
  ·exact QF rfl
  ·refine(QA (λe=>hn.1 ?_)).trans (wg hn.2 hp);have e:q.1=p.1:=Ue e;rw[e];exact Ae.mpr [p:hp:1]
def OR {nx:oq (Str×Str)}(h:z∉nx.map (·.1)):iJ (nxV nx) (V3 z)=none:=by
 cases e:iJ (nxV nx) (V3 z) with
 |none=>rfl
 |some v=>
  have:=C0 e;rw[AaV] at this;erw[Ae.mp this,y,O,e];cases e;exact A8 O h
variable {i:Nat}
def OS {nx:oq (Str×Str)}{q:Key×V}(h:(nxV nx)[i]? =u_ q):∃p,nx[i]? =u_ p/\q=(V3 p.1,V.str p.2):=by
 unfold nxV at h;rw[uC] at h;cases O:nx[i]? with
 |none=>rw[O] at h;cases h
 |some p=>rw[O] at h;cases h;exact[p:1:1]
def Eh (nx:oq (Str×Str)):↑(nxV nx)=↑nx:=by unfold nxV;rw[u9]
nonrec def AbK (H:Hp)(d:o6)(nx:oq (Str×Str)):Prop:=∃o,H d=u_ (.frz o (.dK (nxV nx)))
inductive Dv:Sp
 |mk (l p:Addr)(us:List V)(ds:List D)(_:vs= [.ref l,.ref p])(_:H l=u_ (.lst us))(_:L2.IsL H ds us)(_:mU H p)(_:↑ds<=100)(_:∀r ws es H',H r=U_->mH p H H'->mU H' p->H' r=u_ (.lst ws)->L2.IsL H' es ws->es.Perm ds->Q (.ref r) H')
inductive IQ:Sp
 |mk (d:Addr)(nx:List (Str×Str))(_:vs= [.ref d])(_:AbK H d nx)(_:(nx.map (·.1)).Nodup)(_:↑nx<=100)(_:∀p∈nx,↑p.1<=100/\↑p.2<=100)(_:∀r us H',H r=U_->ig H H'->H' r=u_ (.lst us)->L2.IsL H' ((nx.map stW).map stD) us->Q (.ref r) H')
nonrec def IA:D->Str
 | .tup (.str k::_)=>if k="made" then "rule" else "thing"
 |_=>"thing"
def O4 (d:D):IA d="thing"∨IA d="rule":=by
 unfold IA;split
 ·split
  ·exact .inr rfl
  ·exact .inl rfl
 ·exact .inl rfl
nonrec def Df (qs:oq (Str×D))(t:D)(nx:oq (Str×Str)):Pp:=nx.map λp=>stS (IA (qB qs p.1)) t p
inductive SW (CP:Addr):Sp
 |mk (px d:Addr)(tv:V)(t:D)(qs:List (Str×D))(nx:List (Str×Str))(_:vs= [.ref px,.ref d,tv])(_:Q7 CP H px qs)(_:Qw qs)(_:RG qs nx)(_:AbK H d nx)(_:Is H t tv)(_:↑nx<=100)(_:∀r us H',H r=U_->ig H H'->H' r=u_ (.lst us)->L2.IsL H' ((Df qs t nx).map stD) us->Q (.ref r) H')
inductive SX (CP:Addr):Sp
 |mk (px l d:Addr)(us:List V)(qs:List (Str×D))(ps:Pp)(b:Bool)(nx:List (Str×Str))(_:vs= [.ref px,.ref l,.ref d])(_:H l=u_ (.lst us))(_:L2.IsL H (ps.map stD) us)(_:Q7 CP H px qs)(_:Qw qs)(_:PpB qs ps b)(_:AbK H d nx)(_:∀p∈nx,nm p.1=v_)(_:b=v_->∀p∈nx,shD qs ps p.1= .non∨∃z,shD qs ps p.1=lP z)(_:∀H',ig H H'->Q (.bl v_) H')
nonrec def M2:oq (Key×V):= [(V3 "rule",.str "thing"),(V3 "made",.str "rule")]
def AcL {p:Str×Str}(h:qB qs p.1=m7 p.2∨qB qs p.1=Iz p.2):∃kk e,qB qs p.1= .tup [.str kk,e]/\iJ (J7 [] M2) (V3 kk)=u_ (.str (IA (qB qs p.1))):=by
 rcases h with e|e
 ·exists _,_,e;rw[e];show _=u_ (V.str (if("rule":Str)="made" then "rule" else "thing"))
  rw[A4 ()]
  decide+kernel
 ·exists _,_,e;rw[e];show _=u_ (V.str (if("made":Str)="made" then "rule" else "thing"))
  rw[A6 rfl]
  decide+kernel
def Aab (h:i<n):GN (i:Int) n=u_ i:=by
 unfold GN;have h0:¬((i:Int)<0):=by omega
 simp![h0,if_false];simp;omega
variable {ds:oq D}
def CD {es:oq D}(hi:i<↑ds):(ds.eraseIdx i++(es++ [ds[i]])).Perm (ds++es):=by
 have h1:ds.Perm (ds[i]::ds.eraseIdx i):=by
  have:=vP i ds;rw[List.eraseIdx_eq_take_drop_succ]
  conv=>lhs;rw[<-this,uU hi]
  exact RN
 refine FL ?_ (h1.symm.append_right es);rw[<-vB];exact tW
def IsL.erase {H:Hp}:∀{ds:oq D}{us:oq V} (i:Nat),L2.IsL H ds us->L2.IsL H (ds.eraseIdx i) (us.eraseIdx i)
 | [],_,i,h=>by
  cases(show _= [] from h)
  simp
  rfl
 |d::r,_,i,h=>by
  erw[h,v,us,rfl,h1,h2];cases i with
  |zero=>exact h2
  |succ i=>exact⟨v,0,h1,IsL.erase i h2⟩
section
variable {P:oh}{w:oj}{K:o0}{mg:Str->ot o7}{base:og}{a:Ad}{g:Ga}
def Br (T:Tx K mg a)(C:Fx K w mg g a):FnOk P w K mg base (CX1 P w) 14 a.f_shown a.d_shown ["project","paper","name"] (IR a.qG g.bn):=by
 have JE:=#[Mj,T,C];have yD:=#[oK,T,C];have Jl:=#[Bt,T];have xQ:=#[Bv,T];have QT:=#[Ao,T];have qK:=#[yN,T];refine T.iT.F.okX AZ () (λ_ _ _ s H vs Q E U h=>?_)
 erw[h,px,t,us,n,qs,ps,b,rfl,ht,ac,hP,hq,hB,al,k,k2];have hs:=uE;exists 3,%[#[qY,#[qu,16,JE,U.mono (),_,T.iA.m,T.iA.F.kp,T.iA.b,.nil,AaD,#v[pv 2],_,_,_]],#[qM,#[qr,xp,#[qu,yD,U.mono (),T.iH,#v[pv 0,pv 1]],qQ],%[|#[qq,qQ]],qv],#[qH,(3),AZ.nd,#[qu,Jl,U.mono (),T.lW,#v[pv 1]]],#[qM,#[wI,#[Wk,Qs U,pv 2,pv 3]],%[|#[qq,#[qu,xQ,U.mono (),T.mf,#v[#[Qc,6,Qs U,pv 3,pv 2,(λ_ _=>rfl)]]]]],qv]|#[qq,#[qu,QT,U.mono (),T.iC,#v[#[Qf,20,pv 0,T.QS,T.ii.h,qK,U.mono (),T.ii.b,.nil,qE,#v[pv 2],_,_,_]]]]]
 exists 8,N1,q1
 exists 0,n,1,al,λhn H1 s1=>q1 _ _ ?_,k2;exists 8,N2,q2
 exists 0,0,px,t,us,qs,ps,b,1,s1 _ _ ht,ac.mono s1.tk,hP.same s1,hq,hB,λv H2 s2 h1 h2=>[1:0:?_];have O:=s1.trans s2;cases b with
 |false=>
  have hv:=h2 rfl;exact lN (by simpa using hv) (k hn _ _ O rfl)
 |true=>
  cases h1 rfl;refine iR (by simp) (q2 _ _ ?_)
  exists 8,N3,q3;erw[hB,hl,ay,ad,am]
  exists 0,t,us,ps,1,O _ _ ht,ac.mono O.tk,ad,hl,λsd H3 aA s3 hS=>q3 _ _ ?_;exists 8,N4,q4;have aa:=O.trans s3;erw[id hS,vs,ae,af,ag]
  exists 0,0,sd,0,mM.k (k:=V3 n) ae,0;rw[AA af ag n];by_cases c:n∈(lS ps).map (·.1)
  ·refine lN (uh c) ?_;erw[oR af ag c,l1,l2];have ao:∃kk x,qB (lS ps) n= .tup [.str kk,x]:=by
    erw[Ae.mp c,[m,e],ah,rfl];rw[zP ad ah];erw[Ae.mp ah,s,ap,aq];erw[vV ap,i,hi];have:=(am.2.mp rfl i s hi).2;cases aq;rcases this with⟨z,e⟩|⟨x,e,_⟩|⟨z,e⟩
    ·exact[_:_:e]
    ·exact[_:_:e]
    ·exact[_:_:e]
   erw[ao,kk,ex,Z];rw[Z] at l2
   exists 0,0,sd,0,(by rw[<-l1];exact mM.k (k:=V3 n) ae),_,kk,ex,1,l2,λu H4 s4 i4=>k hn _ _ (aa.trans s4) ?_
   rw[A6 rfl];unfold shD;rwa[A6 c,Z]
  ·refine iR (ug c) (q4 _ _ ?_);have ak:=hP.same aa;erw[id ak,au,aB,op,aC,hx,_]
   exists 0,px,au,0,hx,yk,0,px,n,qs,1,ak,λsv h1 h2=>?_;erw[sW hq h1 h2,d,aw,hd,ax,_]
   exists sv,d,1,aw,hd,λu H4 s4 i4=>k hn _ _ (aa.trans s4) ?_;rw[A6 rfl];unfold shD;rw[A4 c,<-ax];exact i4
def OC:#[T,2,a.JF,a.JG,["steps","pot"],Dv]:=by
 have Qy:=#[An,T];exists 9,T.iV,Ym
 erw[h,l,p,us,ds,rfl,hl,aI,hP,aL,k];have hs:=uE;exists 3,%[#[qH,(2),Ym.nd,#[qU,sy,T.z_list,boot_list,#v[pv 0]]],#[qH,(3),Ym.nd,#[Y4,qd]],#[Xr,#[qr,oE,#[qD,qR,T.Yg,uQ,#v[pv 2]],qk],%[|#[qY,#[XY,vb,vQ,vR,jr,pv 3,#v[#[XY,vb,PySem.F.slot_list_pop,PySem.F.type_list_pop,Lf,pv 2,#v[#[qu,Qy,hr.mono (),T.io,#v[pv 1,#[qD,qR,T.Yg,uQ,#v[pv 2]]]]]]]]]]]|#[qq,pv 3]]
 exists 8,N1,q1
 exists 0,l,us,1,.inl (SqL.of hl),λU af=>q1 _ _ ?_;have m1:=qf af (.lst us);have e1:upd H U (.lst us) U=u_ (.lst us):=qg;have i1:=aI.mono m1.tk;generalize upd H U (.lst us)=H1 at m1 e1 i1⊢;exists 8,N2,q2
 exists uY _,λLB ag=>q2 _ _ ?_;have m2:=qf ag (.lst ([]:oq V));have e2:upd H1 LB (.lst []) LB=u_ (.lst []):=qg;have aw:=m2 _ _ e1;have ax:U≠LB:=qi e1 ag;have ay:=i1.mono m2.tk;have ah:=m1.trans m2;have ac:H LB=none:=m1.free ag;generalize upd H1 LB (.lst [])=H2 at m2 e2 aw ay ah⊢;have aA:U≠p:=(hP.free af).symm;have aB:LB≠p:=(hP.free ac).symm;exists 8,N3,q3
 let J_:Nat->L2.St->Hp->Prop:=λmm σ H'=>∃(O Z:oq V) (aa ad:oq D),σ= [u_ (.ref l),u_ (.ref p),u_ (.ref U),u_ (.ref LB)]/\mm=↑O/\mH p H H'/\mU H' p/\H' U=u_ (.lst O)/\L2.IsL H' aa O/\H' LB=u_ (.lst Z)/\L2.IsL H' ad Z/\(aa++ad).Perm ds
 exists J_,⟨_,us,[],ds,[],1,1,mH.of ah,hP.same ah,aw,ay,e2,1,by rw[uX]⟩
 rintro mm σ H3 ⟨O,Z,aa,ad,rfl,rfl,K3,P3,ae,ak,al,am,hp⟩;have aJ:=hp.length_eq;rw[uJ] at aJ;have l1:=↑ak;have l2:=↑am
 exists 0,U,O,1,.inl (SqL.of ae),_,0,1,0;by_cases c0:↑O=0
 ·refine iR (ug ()) (q3 _ _ [0:?_])
  have ed:aa= []:=vT ()
  rw[ed,GS] at hp;exact k LB Z ad H3 ac K3 P3 al am hp
 ·refine lN (uh ()) ?_
  exists λσ' H'=>∃m',m'<↑O/\J_ m' σ' H',λ_ _ h=>h
  exists 0,.inl [1:_:SqL.of al],0,.inl [1:_:SqL.of ae],0,0,U,O,1,.inl (SqL.of ae),p,(↑O:Int),1,P3,(),(),λc H4 h0 h1 P4 K4=>?_
  obtain⟨n,rfl,hn⟩:∃n:Nat,c=(n:Int)/\n<↑O:=[c.toNat:():()]
  have aC:n<↑aa:=by omega
  have ao:=P3.tk P4 K4;have aD:=K4 _ _ ae aA;have aK:=K4 _ _ al aB;erw[(ak.mono ao).get (i:=n) (d:=aa[n]) (uc aC),y,hy,iy]
  exists U,O,_,n,y,1,1,aD,(),(),Aab hn,hy
  have ap:Tk H4 (upd H4 U (.lst (O.eraseIdx n))):=Tk.updL aD;have aE:upd H4 U (.lst (O.eraseIdx n)) U=u_ (.lst (O.eraseIdx n)):=qg;have aq:upd H4 U (.lst (O.eraseIdx n)) LB=u_ (.lst Z):=by rwa[qh (vX ax)]
  have P5:mU (upd H4 U (.lst (O.eraseIdx n))) p:=by
   erw[P4,x,ex,h];exact⟨x,by rwa[qh (vX aA)],h⟩
  have K5:mH p H (upd H4 U (.lst (O.eraseIdx n))):=λb o e hb=>by
   rw[qh (qi e af)];exact(K3.trans K4) b o e hb
  have aF:=(IsL.erase n (ak.mono ao)).mono ap;have aG:=((am.mono ao).mono ap);have aH:=iy.mono ap;show kT _ _ (upd H4 U (.lst (O.eraseIdx n))) _;generalize upd H4 U (.lst (O.eraseIdx n))=H5 at aE aq P5 K5 aF aG aH⊢
  exists LB,Z,0,1,aq,()
  have au:Tk H5 (upd H5 LB (.lst (Z++ [y]))):=Tk.updL aq
  exists _,?_,O.eraseIdx n,Z++ [y],aa.eraseIdx n,ad++ [aa[n]],1,1,λb o e hb=>?_,?_,?_,aF.mono au,qg,(aG.mono au).append (L2.IsL.one (aH.mono au)),(CD aC).trans hp
  ·rw[List.length_eraseIdx_of_lt hn];omega
  ·rw[qh (qi e ac)];exact K5 b o e hb
  ·erw[P5,x,ex,h];exact⟨x,by rwa[qh (vX aB)],h⟩
  ·rw[qh ax];exact aE
def KO:#[T,1,a.Xe,a.XI,["nexts"],IQ]:=by
 refine T.mq.F.ok Wh () (λ_ A _ s H _ Q E hr h=>?_)
 erw[h,d,nx,rfl,[o,hd],af,al,ag,k];have hs:=uE;exists 3,%[|#[qq,#[wB,["name","nexts"],(1),[0],Lk (qj Yz) ["nexts"],#[w8,pv 0],(λ_ _ _ _ _ _=>#[qN,(0),(show Vi (["name","nexts"]:oq Str) by decide+kernel)]),(λ_ _ _ _ _ _=> @yS _),(λ_ _ _ _ _ _=>#[qz,#v[pv 0,#[qz,qd],#[qz,#v[qm,#[Qc,pv 1,pv 0]]]]])]]]
 exists 0,d,o,0,hd,λA hA=>?_;refine O2 (tl:= [u_ (.ref d)]) (ls:=nx.map (·.1)) (λi ys H'=>L2.IsL H' (((nx.take i).map stW).map stD) ys/\ig H H') hd (AaV nx) (by rw[u9];omega) [1:qf hA _] (λi ys H' h=>h.2) ?_ ?_
 ·rintro i z ys H' hz ⟨O,s'⟩ ah R hR;rw[uC] at hz;obtain⟨p,Z,rfl⟩:∃p,nx[i]? =u_ p/\p.1=z:=by
   cases Z:nx[i]? with
   |none=>rw[Z] at hz;cases hz
   |some p=>rw[Z] at hz;exact[p:1:uM hz]
  have aa:=uN Z;erw[ag p aa,l1,l2]
  exists 0,uY _,λt0 h0=>?_;have m0:=qf h0 (.tup ([]:oq V));have i0:Is (upd H' t0 (.tup [])) (.tup []) (.ref t0):=Is.new (ds:= []) rfl h0;generalize upd H' t0 (.tup [])=Ha at m0 i0⊢
  exists 0,0,d,0,.inl ⟨_,V3 p.1,.inr [o:m0 _ _ (s' _ _ hd)],1,(wg af aa).symm⟩,sml rfl,λt1 h1=>?_;have m1:=qf h1 (.tup [V.str "stuck",V.str p.2]);have i1:Is (upd Ha t1 (.tup [V.str "stuck",V.str p.2])) (lP p.2) (.ref t1):=Is.new (ds:= [.str "stuck",.str p.2]) ⟨_,0,Qb (),_,0,Qb (),1⟩ h1
  have ac:=i0.mono m1.tk;have ad:=m0.trans m1;generalize upd Ha t1 (.tup [V.str "stuck",V.str p.2])=Hb at m1 i1 ac ad⊢
  exists sml rfl,λt2 h2=>?_;have m2:=qf h2 (.tup [V.str p.1,V.ref t0,V.ref t1]);have i2:Is (upd Hb t2 (.tup [V.str p.1,V.ref t0,V.ref t1])) (stD (stW p)) (.ref t2):=Is.new (ds:= [.str p.1,.tup [],lP p.2]) ⟨_,0,Qb (),_,0,ac,_,0,i1,1⟩ h2
  have U:=ad.trans m2;generalize upd Hb t2 (.tup [V.str p.1,V.ref t0,V.ref t1])=Hc at m2 i2 U⊢;have ae:=U _ _ ah;have tk:Tk Hc (upd Hc A (.lst (ys++ [.ref t2]))):=Tk.updL ae;refine hR _ _ ae [?_:λb ob e=>?_]
  ·rw[vc,Z,um,um];exact((O.mono U.tk).mono tk).append (L2.IsL.one (i2.mono tk))
  ·rw[qh (qi e hA)];exact U _ _ (s' _ _ e)
 rintro ys H5 ⟨O,s5⟩ ak;rw[u9,vU] at O;exact k A ys H5 hA s5 ak O
def AaK:#[T,2,a.Zo,a.Zl,["project","nexts","tree"],(SW a.qG)]:=by
 have qK:=#[yN,T];exists 9,T.mE,YA
 erw[h,px,d,tv,t,qs,nx,rfl,hP,hq,hG,[o,hd],it,aD,k];have hs:=uE;exists 3,%[#[qH,(3),YA.nd,#[Y4,qd]],#[yJ,#[w8,pv 1],#[qN,(4),YA.nd],%[#[qH,(5),YA.nd,#[Qc,#[Oa,5,#[Bk,9,qm,qm,#[Bk,9,qm,qm,NY]],rfl,rfl,(by simp),()],#[qF,qA,#[Qf,pv 0,T.QS,T.ii,qK,#v[pv 4]]]]]|#[qY,#[XY,vb,vQ,vR,jr,pv 3,#v[#[qz,#v[pv 4,#[qz,#v[#[qz,#v[#[qz,#v[pv 5,#[Qc,pv 1,pv 4]]],pv 2]]]],#[qz,#v[qm,pv 2]]]]]]]]]|#[qq,pv 3]]
 exists 8,N1,q1
 exists uY _,λL hL=>q1 _ _ ?_;have m1:=qf hL (.lst ([]:oq V));have e1:upd H L (.lst []) L=u_ (.lst []):=qg;generalize upd H L (.lst [])=H1 at m1 e1⊢;exists 8,N2,q2
 exists 0,d,o,0,m1 _ _ hd
 let J_:Nat->L2.St->Hp->Prop:=λi σ H'=>∃(us:oq V) (u4 u5:ot V),σ= [u_ (.ref px),u_ (.ref d),u_ tv,u_ (.ref L),u4,u5]/\ig H H'/\H' L=u_ (.lst us)/\L2.IsL H' ((Df qs t (nx.take i)).map stD) us
 refine kg (kvs:=nxV nx) J_ ⟨[],_,0,m1,e1,1⟩ (λi σ H' _ h=>by erw[h,_,_,_,_,s',_];exact s' _ _ hd) ?_ ?_
 ·rintro i q σ H' aw ⟨us,u4,u5,rfl,s',eL,O⟩;erw[OS aw,p,hp,rfl];have hi:i<↑nx:=(Ag.mp hp).1;have U:=uN hp;have Z:=↑O;rw[u9] at Z;have Z:↑us<=100:=by
   unfold Df at Z;rw[Z,u9,vy];omega
  have l1:=(yK _ (Yx (hG.nms p U))).2.1;have l2:=(yK _ (Yx (hG.nm2 U))).2.1;erw[AcL (hG.dat p U),kk,e,ah,ak];have ax:p.1∈qs.map (·.1):=by
   erw[hG.run U,g,hg,_];exact(ya qs).gn _ g hg
  show ni _ _ _ _ H';exists 8,B1,b1;intro pd al;have mC:ig H' (upd (upd H' pd (.dK [])) pd (.dK (J7 [] M2))):=λb ob eb=>by
   rwa[qh (qi eb al),qh (qi eb al)]
  have eC:upd (upd H' pd (.dK [])) pd (.dK (J7 [] M2)) pd=u_ (.dK (J7 [] M2)):=qg;have ad:=hP.same (s'.trans mC);erw[id ad,ay,aE,op,aF,hx,_]
  exists qg,M2,1,()
  exists 0,px,ay,0,hx,yk,0,px,p.1,qs,1,ad,λsv h1 h2=>?_;clear h2;have am:=h1 ax;rw[ah] at am;erw[am,ts,aG,rfl,ao,w1,r1,rfl,[rfl,_],w2,r2,rfl,_,aA];cases(show r2= [] from aA)
  exists ts,_,_,0,1,SqT.of ao,1,pd,0,(by rw[<-ak];exact mM.k (k:=V3 kk) eC),b1 _ _ ?_
  clear ao h1 hx ad eC;generalize upd (upd H' pd (.dK [])) pd (.dK (J7 [] M2))=Ha at mC⊢;have s1:=s'.trans mC;have ap:=mC _ _ eL
  exists 0,.inl [1:_:SqL.of ap],0,0,0,0,d,0,.inl ⟨_,V3 p.1,.inr [o:s1 _ _ hd],1,(wg hG.nd U).symm⟩,sml rfl,λt0 h0=>?_;have aB:↑(IA (qB qs p.1))<=10:=by
   rcases O4 (qB qs p.1) with h|h
   ·rw[h];decide
   ·rw[h];decide
  have aq:=it.mono s1.tk;generalize aC:IA (qB qs p.1)=kd at aB h0⊢;have n0:=qf h0 (.tup [V.str kd,V.str p.2]);have j0:Is (upd Ha t0 (.tup [V.str kd,V.str p.2])) (.tup [.str kd,.str p.2]) (.ref t0):=Is.new (ds:= [.str kd,.str p.2]) ⟨_,0,Qb (),_,0,Qb (),1⟩ h0
  generalize upd Ha t0 (.tup [V.str kd,V.str p.2])=Hb at n0 j0⊢
  exists 0,sml rfl,λt1 h1=>?_;have n1:=qf h1 (.tup [V.ref t0,tv]);have j1:Is (upd Hb t1 (.tup [V.ref t0,tv])) (.tup [.tup [.str kd,.str p.2],t]) (.ref t1):=Is.new (ds:= [.tup [.str kd,.str p.2],t]) ⟨_,0,j0,_,0,aq.mono n0.tk,1⟩ h1;have ae:=n0.trans n1;clear n0 j0;generalize upd Hb t1 (.tup [V.ref t0,tv])=Hc at n1 j1 ae⊢
  exists sml rfl,λt2 h2=>?_;have n2:=qf h2 (.tup [V.ref t1]);have j2:Is (upd Hc t2 (.tup [V.ref t1])) (.tup [.tup [.tup [.str kd,.str p.2],t]]) (.ref t2):=Is.new (ds:= [.tup [.tup [.str kd,.str p.2],t]]) ⟨_,0,j1,1⟩ h2;have aa:=ae.trans n2;clear n1 j1 ae;generalize upd Hc t2 (.tup [V.ref t1])=Hd at n2 j2 aa⊢
  exists 0,sml rfl,λt3 h3=>?_;have n3:=qf h3 (.tup [V.str "said",tv]);have j3:Is (upd Hd t3 (.tup [V.str "said",tv])) (.tup [.str "said",t]) (.ref t3):=Is.new (ds:= [.str "said",t]) ⟨_,0,Qb (),_,0,aq.mono aa.tk,1⟩ h3
  have af:=j2.mono n3.tk;have ag:=aa.trans n3;clear n2 j2 aa;generalize upd Hd t3 (.tup [V.str "said",tv])=He at n3 j3 af ag⊢
  exists sml rfl,λt4 h4=>?_;have n4:=qf h4 (.tup [V.str p.1,V.ref t2,V.ref t3]);have j4:Is (upd He t4 (.tup [V.str p.1,V.ref t2,V.ref t3])) (stD (stS kd t p)) (.ref t4):=Is.new (ds:= [.str p.1,.tup [.tup [.tup [.str kd,.str p.2],t]],.tup [.str "said",t]]) ⟨_,0,Qb (),_,0,af,_,0,j3,1⟩ h4
  have ac:=ag.trans n4;clear n3 j3 af ag;show kT _ _ (upd He t4 (.tup [V.str p.1,V.ref t2,V.ref t3])) _;generalize upd He t4 (.tup [V.str p.1,V.ref t2,V.ref t3])=Hf at n4 j4 ac⊢;have au:=ac _ _ ap
  exists L,us,0,1,au,()
  have tk:Tk Hf (upd Hf L (.lst (us++ [.ref t4]))):=Tk.updL au
  exists us++ [.ref t4],_,0,λb ob e=>?_,qg,?_
  ·rw[qh (qi e hL)];exact ac _ _ (s1 _ _ e)
  ·unfold Df at O⊢;rw[vc,hp,um,um];refine(((O.mono mC.tk).mono ac.tk).mono tk).append ?_;show L2.IsL _ [stD (stS (IA (qB qs p.1)) t p)] _;rw[aC];exact L2.IsL.one (j4.mono tk)
 ·rintro σ H' ⟨us,u4,u5,rfl,s',eL,O⟩;rw[Eh,vU] at O;exact q2 _ _ [0:k L us H' hL s' eL O]
def AaN:#[C,15,a.jS,a.jX,["project","paper","nexts"],(SX a.qG)]:=by
 have kS:=#[Br,T,C];exists 9,T.iS,yQ
 erw[h,px,l,d,us,qs,ps,b,nx,rfl,hl,ac,hP,hq,hB,[o,hd],ad,hv,k];have hs:=uE;exists 3,%[#[yJ,#[w8,pv 2],#[qN,(3),yQ.nd],%[#[qH,(4),yQ.nd,#[qu,16,kS,hr.mono (),_,T.iT.m,T.iT.F.kp,T.iT.b,.nil,Am,#v[pv 0,#[qU,qX,T.QP,vw,#v[pv 1]],pv 3],_,_,_]]|@qM _ _ _ _ _ _ _ _ #[Bh,7,#[qr,xp,pv 4,qQ],#[ku,4,#[qr,QW,#[qF,qA,pv 4],qm]]].pt %[|#[qq,YM]] qv]]|#[qq,YM]]
 exists 8,N1,q1
 exists 0,d,o,0,hd
 let J_:Nat->L2.St->Hp->Prop:=λi σ H'=>∃(u3 u4:ot V),σ= [u_ (.ref px),u_ (.ref l),u_ (.ref d),u3,u4]/\ig H H'
 refine kg (kvs:=nxV nx) J_ [_:0:ig.refl _] (λi σ H' _ h=>by erw[h,_,_,_,s'];exact s' _ _ hd) ?_ ?_
 ·rintro i q σ H' ae ⟨u3,u4,rfl,s'⟩;erw[OS ae,p,hp,rfl];have Z:=uN hp;have hn:=ad p Z;have ah:=wM hn;show ni _ _ _ _ H';exists 8,B1,b1
  exists 0,0,l,us,1,.inl [SqL.of (s' _ _ hl):λts af=>?_];have ms:=qf af (.tup us);have s1:=s'.trans ms
  exists 0,px,ts,us,p.1,qs,ps,b,1,qg,ac.mono s1.tk,hP.same s1,hq,hB,(),λ_ v H5 s5 O=>b1 _ _ ?_,λh=>A8 (hn.symm.trans h) ()
  have aa:=s1.trans s5;have U:v= .non∨∃z,Is H5 (lP z) v:=by
   cases b with
   |false=>
    rw[A4 ub] at O;exact .inl O
   |true=>
    rw[A6 rfl] at O;rcases hv rfl p Z with e|⟨z,e⟩
    ·rw[e] at O;exact .inl O
    ·rw[e] at O;exact .inr [z:O]
  exists 0,1,0;rcases U with rfl|⟨z,iz⟩
  ·exact iR rfl (iR rfl [_:0:aa])
  ·erw[iz,tz,uz,rfl,ag,w1,r1,rfl,[rfl,_],_];refine lN (by simp) ?_
   exists 0,tz,_,_,0,1,SqT.of ag,qC (j:=0) rfl,1,0;exact iR (ug (λy=>A8 (V.str.inj y) ())) [_:0:aa]
 ·rintro σ H' ⟨u3,u4,rfl,s'⟩;exact q1 _ _ (k H' s')
end
variable {H:Hp}{x:V}
def Abc {rs:oq (Str×D)}{ws:oq V}{p:Str×D}(i:Nat)(h:L2.IsL H (rs.map prD) ws)(O:Is H (prD p) x):L2.IsL H ((rs.take i++p::rs.drop i).map prD) (ws.take i++x::ws.drop i):=by
 induction i generalizing rs ws with
 |zero=>exact⟨_,0,O,h⟩
 |succ i U=>
  cases rs with
  |nil=>
   cases(show ws= [] from h)
   exact⟨_,0,O,1⟩
  |cons r rs=>
   erw[h,u,w,rfl,h1,h2];exact⟨_,0,h1,U h2⟩
mutual
theorem AcM {H H':Hp}(t:∀b xs,H b=u_ (.tup xs)->H' b=u_ (.tup xs)):∀{d:D}{v:V},lw d=v_->Is H d v->Is H' d v
 | .str _,_,_,h=>h
 | .tup xs,_,hl,h=>by
  erw[h,b,vs,e,O,U];exact⟨b,vs,e,t b vs O,isL_lw t (by simpa [lw] using hl) U⟩
 | .non,_,hl,_=>by simp[lw] at hl
 | .int _,_,hl,_=>by simp[lw] at hl
 | .bl _,_,hl,_=>by simp[lw] at hl
 | .lst,_,hl,_=>by simp[lw] at hl
 | .dct,_,hl,_=>by simp[lw] at hl
theorem isL_lw {H H':Hp}(t:∀b xs,H b=u_ (.tup xs)->H' b=u_ (.tup xs)):∀{ds:oq D}{vs:oq V},lwL ds=v_->L2.IsL H ds vs->L2.IsL H' ds vs
 | [],_,_,h=>h
 |x::r,_,hl,h=>by
  erw[h,v,us,e,h1,h2];have O:lw x=v_/\lwL r=true:=by simpa [lwL] using hl
  exact⟨v,us,e,AcM t O.1 h1,isL_lw t O.2 h2⟩
end
nonrec def rL (m:Nat):oq Str:=(Va m).map rK
nonrec def iL (w:Nat):oq Str:=(Va w).map iK
def Xy (m:Nat):↑(rL m)=m:=by unfold rL;rw[u9,Uv]
def XM (m:Nat):↑(iL m)=m:=by unfold iL;rw[u9,Uv]
def Aal {m k:Nat}(h:k<m):(rL m)[k]? =u_ (rK k):=by unfold rL;rw[uC,rC h];rfl
def AcS {m k:Nat}(h:k<m):(iL m)[k]? =u_ (iK k):=by unfold iL;rw[uC,rC h];rfl
def Acw {k:Nat}(h:k<40):rK k∈RW:=vh _ (Ae.mpr [k:List.mem_range.mpr h:1])
def AcT {k:Nat}(h:k<3):iK k∈RW:=uP _ (Ae.mpr [k:List.mem_range.mpr h:1])
def BW {m w:Nat}(hm:m<=40)(O:w<=3):(rL m++iL w).Nodup:=by
 have h:=Mo;unfold NMS RW at h;have h1:=(List.nodup_append.mp h).1;refine h1.sublist (ph ?_ ?_)
 ·exact(List.range_sublist.mpr hm).map _
 ·exact(List.range_sublist.mpr O).map _
nonrec def rgL (m i:Nat):oq (Str×Str):=(Va i).map λk=>(rK k,rK ((k+1)%m))
def Aag (m i:Nat):(rgL m i).map (·.1)=rL i:=by unfold rgL rL;rw[uO];rfl
structure RgL (ps:oq (Str×D))(nx:oq (Str×Str))(ns:oq Str):Prop where
 pr:Ab5 ps
 len:↑ps<=60
 nd:(nx.map (·.1)).Nodup
 nms:∀p∈nx,p.1∈RW
 sub:∀p∈nx,p.2∈nx.map (·.1)
 dat:∀p∈nx,(p.1,m7 p.2)∈ps∨(p.1,Iz p.2)∈ps
 lf:(("leaf":Str),lfX)∈ps
 bs:(("beside":Str),m7 "leaf")∈ps
 n0:0<↑ns
 n1:↑ns<=40
 nl:↑nx<=43
 pre:∀i,i<↑ns->(nx.map (·.1))[i]? =ns[i]?
inductive Ni:Sp
 |mk (p:Addr)(_:vs= [.ref p])(_:mU H p)(_:∀(t L d N:Addr)(us:List V)(ps:List (Str×D))(nx:List (Str×Str))(ns:List Str)(H':Hp),mH p H H'->mU H' p->H' t=u_ (.tup [.ref L,.ref d,.ref N])->H' L=u_ (.lst us)->L2.IsL H' (ps.map prD) us->AbK H' d nx->H' N=u_ (.lst (ns.map V.str))->RgL ps nx ns->Q (.ref t) H')
def Me:∀{ps:oq (Str×D)},(∀p∈ps,nm p.1=v_/\kK p.2)->lwL (ps.map prD)=v_
 | [],_=>rfl
 |p::r,h=>by
  have h1:=h p ui;have h2:=Me (ps:=r) λq O=>h q (uj _ O);have h3:lw (.str p.1)=true:=AaW h1.1;simp![uD,lwL,prD,lw,h2,Uu];simp![lw] at h3;simp![h3,h1.2.2.2.1,G_]
structure PsI (nx:oq (Str×Str))(i:Nat)(ps:oq (Str×D)):Prop where
 pm:(ps.map (·.1)).Perm ((["leaf","beside"]:oq Str)++(nx.map (·.1)).take i)
 so:∀r∈ps,kK r.2
 lf:(("leaf":Str),lfX)∈ps
 bs:(("beside":Str),m7 "leaf")∈ps
 dt:∀j p,j<i->nx[j]? =u_ p->(p.1,m7 p.2)∈ps∨(p.1,Iz p.2)∈ps
def PsI.ins {nx:oq (Str×Str)}{i n:Nat}{ps:oq (Str×D)}{p:Str×Str}{src:D}(h:PsI nx i ps)(Z:nx[i]? =u_ p)(hs:src=m7 p.2∨src=Iz p.2)(h2:p.2∈NMS):PsI nx (i+1) (ps.take n++(p.1,src)::ps.drop n):=by
 have hm:∀x,x∈ps.take n++(p.1,src)::ps.drop n↔x=(p.1,src)∨x∈ps:=λx=>by
  conv=>rhs;rw[<-vP n ps]
  simp![Ac,uH];constructor
  ·rintro(h|h|h)
   ·exact .inr (.inl h)
   ·exact .inl h
   ·exact .inr (.inr h)
  ·rintro(h|h|h)
   ·exact .inr (.inl h)
   ·exact .inl h
   ·exact .inr (.inr h)
 exists ?_,λr O=>?_,(hm _).mpr (.inr h.lf),(hm _).mpr (.inr h.bs),λj q hj U=>?_
 ·have e:(nx.map (·.1)).take (i+1)=(nx.map (·.1)).take i++ [p.1]:=by rw[vc,uC,Z];rfl
  rw[e,um,uD,<-vB];refine FL RN ?_;rw[<-um,vP];exact(h.pm.cons p.1).trans (tW (l₁:= [p.1]))
 ·rcases(hm r).mp O with rfl|O
  ·rcases hs with rfl|rfl
   ·exact Dg h2
   ·exact Na h2
  ·exact h.so r O
 ·by_cases c:j<i
  ·exact(h.dt j q c U).imp (λh=>(hm _).mpr (.inr h)) (λh=>(hm _).mpr (.inr h))
  ·have:j=i:=by omega
   subst this;rw[Z] at U;cases U;rcases hs with rfl|rfl
   ·exact .inl ((hm _).mpr (.inl rfl))
   ·exact .inr ((hm _).mpr (.inl rfl))
structure RS (H H':Hp)(p L W:o6)(m w:Nat):Prop where
 k:mH p H H'
 p:mU H' p
 l:H' L=u_ (.lst ((rL m).map V.str))
 w:H' W=u_ (.lst ((iL w).map V.str))
section
variable {H H1 H2:Hp}{p L W:o6}{m w:Nat}
def RS.same (h:RS H H1 p L W m w)(s:ig H1 H2):RS H H2 p L W m w:=⟨h.k.trans (mH.of s),h.p.same s,s _ _ h.l,s _ _ h.w⟩
def RS.kp (h:RS H H1 p L W m w)(U:mU H2 p)(O:mH p H1 H2):RS H H2 p L W m w:=⟨h.k.trans O,U,O _ _ h.l (h.p.ne_strs h.l),O _ _ h.w (h.p.ne_strs h.w)⟩
variable {o:HO}
def RS.upd {x:o6}(h:RS H H1 p L W m w)(O:H x=U_)(h1:x≠p)(h2:x≠L)(h3:x≠W):RS H (upd H1 x o) p L W m w:=⟨λb ob e U=>by rw[qh (qi e O)];exact h.k b ob e U,(by erw[h.p,y,e,Z];exact⟨y,by rwa[qh h1.symm],Z⟩),by rw[qh h2.symm];exact h.l,by rw[qh h3.symm];exact h.w⟩
end
section
variable {P:oh}{w:oj}{K:o0}{mg:Str->ot o7}{base:og}{a:Ad}{g:Ga}
def Oo:#[T,2,a.Wp,a.WF,["pot"],Ni]:=by
 have Qy:=#[An,T];exists 9,T.mW,Qo
 erw[h,p,rfl,hP,k];have hs:=uE;exists 3,%[#[qH,(1),Qo.nd,#[QC,Yy,qk,#[qu,Qy,hr.mono (),T.io,#v[pv 0,qk]]]],#[qM,#[qr,QW,#[qu,Qy,hr.mono (),T.io,#v[pv 0,qk]],qk],%[|#[qH,(1),Qo.nd,#[QC,Yy,qk,#[qu,Qy,hr.mono (),T.io,#v[pv 0,qk]]]]],qv],#[X3,["k"],[],(2),Qo.nd,OZ,#[jn,#v[pv 1]],(λ_ _ _ _ _ _=>#[qN,(0),(show Vi (["k"]:oq Str) by decide+kernel)]),(λ_ _ _ _ _ _=> @yS _),(λ_ _ _ _ _ _=>#[QC,JO,qm,#[qU,jd,T.zx,Uz,#v[pv 0]]])],#[X3,["k"],[],(3),Qo.nd,OZ,#[jn,#v[#[qu,Qy,hr.mono (),T.io,#v[pv 0,qk]]]],(λ_ _ _ _ _ _=>#[qN,(0),(show Vi (["k"]:oq Str) by decide+kernel)]),(λ_ _ _ _ _ _=> @yS _),(λ_ _ _ _ _ _=>#[QC,JO,qm,#[qU,jd,T.zx,Uz,#v[pv 0]]])],#[qH,(4),Qo.nd,jL],#[qH,(5),Qo.nd,#[Y4,#v[#[qz,#v[qm,#[qz,#v[qm,qm]]]],#[qz,#v[qm,#[qz,#v[qm,#[qz,#v[qm,qm,qm]]]]]]]]],#[yJ,#[jn,#v[pv 1]],#[qN,(6),Qo.nd],%[|#[jj,pv 4,#[qF,7,Yn,pv 2,pv 6,(λ_ _=>rfl)],#[qF,7,Yn,pv 2,#[QC,oC,#[QC,Yy,pv 6,qk],pv 1],(λ_ _=>rfl)]]]],#[yJ,#[jn,#v[#[qD,qR,T.Yg,uQ,#v[pv 3]]]],#[qN,(6),Qo.nd],%[|#[jj,pv 4,#[qF,7,Yn,pv 3,pv 6,(λ_ _=>rfl)],#[qF,7,Yn,#[QC,Bp,pv 2,#[Xz,sX,pv 3,Kb,#[zE,pv 6]]],#[qu,Qy,hr.mono (),T.io,#v[pv 0,#[QC,Yy,pv 1,pv 6]]],(λ_ _=>rfl)]]]],#[yJ,#[xm,#[QC,Bp,pv 2,pv 3]],#[qN,(7),Qo.nd],%[#[qH,(8),Qo.nd,#[qz,#v[qm,#[qz,#v[#[QC,JO,qm,#[Qc,pv 4,pv 7]],qm,qm]]]]],#[qM,#[qr,QW,#[qu,Qy,hr.mono (),T.io,#v[pv 0,qk]],qk],%[|#[qH,(8),Qo.nd,#[qz,#v[qm,#[Qc,pv 4,pv 7]]]]],qv]|#[qY,#[XY,vb,PySem.F.slot_list_insert,PySem.F.type_list_insert,Eo,pv 5,#v[#[qu,Qy,hr.mono (),T.io,#v[pv 0,#[QC,Yy,#[qD,qR,T.Yg,uQ,#v[pv 5]],qk]]],#[qz,#v[pv 7,pv 8]]]]]]]|#[qq,#[AaB,3,#[qz,#v[pv 5,pv 4,pv 2]]]]]
 exists 8,N1,q1
 exists 0,p,(6),1,hP,(),(),λc1 H1 a1 b1 P1 K1=>⟨_,0,1,q1 _ _ ?_⟩
 exists 8,N2,q2;have aW:∀(c:Int) (m:Nat) (H':Hp),c=(m:Int)->1<=m->m<=40->mU H' p->mH p H H'->N2 [u_ (.ref p),u_ (.int c),U_,U_,U_,U_,U_,U_,U_] H':=by
  rintro c m H2 rfl b4 aX P2 K2;refine q2 _ _ ?_;clear q1 q2 P1 K1;exists 8,N3,q3
  exists 0,m,1,(),(),λL hL=>?_
  refine kh (lo:=0) (n:=m) (tl:= []) (λi ys H'=>ys=(rL i).map V.str/\ig H2 H') (Ye ()) [1:qf hL _] ?_ ?_
  ·rintro i ys H' hi ⟨rfl,s1⟩ aH U R hR;have hn:=Db i ()
   have aI:(0+(i:Int)).natAbs.log2<1920:=U6 (UZ _) ()
   have e0:(0+(i:Int))=(i:Int):=by omega
   exists 0,0,aI,_,0,1,?_,?_
   ·rw[e0];exact CT (by show 1+↑(SR (i:Int))<=_;omega)
   ·refine hR _ H' aH ⟨?_,λb o e=>by rw[qh (qi e hL)];exact s1 b o e⟩
    rw[e0];unfold rL;rw[vY,um,um]
    rfl
  rintro ys H3 ⟨rfl,s3⟩ eL;refine q3 _ _ ?_;have b5:H L=none:=by
   cases e:H L with
   |none=>rfl
   |some o=>
    have:=K2 _ _ e (P2.free hL).symm;rw[hL] at this;cases this
  have K3:=K2.trans (mH.of s3);have P3:=P2.same s3;clear K2 P2 s3 q3 hL;exists 8,N4,q4
  exists 0,p,(4),1,P3,(),(),λc H4 h0 h1 P4 K4=>?_
  obtain⟨w,rfl,hw⟩:∃w:Nat,c=(w:Int)/\w<=3:=[c.toNat:():()]
  exists w,1,(),(),λW hW=>?_
  have aJ:=K4 _ _ eL (P3.ne_strs eL);have b6:L≠W:=qi aJ hW;refine kh (lo:=0) (n:=w) (tl:= []) (λi ys H'=>ys=(iL i).map V.str/\ig H4 H') (Ye ()) [1:qf hW _] ?_ ?_
  ·rintro i ys H' hi ⟨rfl,s1⟩ aH U R hR;have hn:=Db i ()
   have aI:(0+(i:Int)).natAbs.log2<1920:=U6 (UZ _) ()
   have e0:(0+(i:Int))=(i:Int):=by omega
   exists 0,0,aI,_,0,1,?_,?_
   ·rw[e0];exact CT (by show 1+↑(SR (i:Int))<=_;omega)
   ·refine hR _ H' aH ⟨?_,λb o e=>by rw[qh (qi e hW)];exact s1 b o e⟩
    rw[e0];unfold iL;rw[vY,um,um]
    rfl
  rintro ys H5 ⟨rfl,s5⟩ eW;refine q4 _ _ ?_;have aK:∀{H':Hp}{x:o6},mH p H H'->mU H' p->H' x=U_->H x=none:=λ{H' x} K' P' hx=>by
   cases e:H x with
   |none=>rfl
   |some o=>
    have:=K' _ _ e (P'.free hx).symm;rw[hx] at this;cases this
  have R5:RS H H5 p L W m w:=⟨(K3.trans K4).trans (mH.of s5),P4.same s5,s5 _ _ aJ,eW⟩;have b7:=aK (K3.trans K4) P4 hW;clear K3 K4 P3 P4 s5 aJ eW eL h0 h1 q4 hW;exists 8,N5,q5;refine λd hd=>q5 _ _ ?_;have aL:=aK R5.k R5.p hd;have ag:=(R5.p.free hd).symm;have ndL:d≠L:=(qi R5.l hd).symm;have aM:d≠W:=(qi R5.w hd).symm;have R6:=R5.same (qf hd (.dK ([]:oq (Key×V))));have e6:upd H5 d (.dK []) d=u_ (.dK []):=qg;generalize upd H5 d (.dK [])=H6 at R6 e6⊢;clear R5 hd q5;exists 8,N6,q6
  exists sml rfl,λt1 h1=>?_;have n1:=qf h1 (.tup [V.str "leaf",V.str "x"]);have i1:Is (upd H6 t1 (.tup [V.str "leaf",V.str "x"])) lfX (.ref t1):=Is.new (ds:= [.str "leaf",.str "x"]) ⟨_,0,Qb (),_,0,Qb (),1⟩ h1
  generalize upd H6 t1 (.tup [V.str "leaf",V.str "x"])=Ha at n1 i1⊢
  exists sml rfl,λt2 h2=>?_;have n2:=qf h2 (.tup [V.str "leaf",V.ref t1]);have i2:Is (upd Ha t2 (.tup [V.str "leaf",V.ref t1])) (prD ("leaf",lfX)) (.ref t2):=Is.new (ds:= [.str "leaf",lfX]) ⟨_,0,Qb (),_,0,i1,1⟩ h2
  have O:=n1.trans n2;clear n1 i1;generalize upd Ha t2 (.tup [V.str "leaf",V.ref t1])=Hb at n2 i2 O⊢
  exists sml rfl,λt3 h3=>?_;have aY:("leaf":Str)∈NMS:=by decide+kernel
  have n3:=qf h3 (.tup ((cL "leaf").map V.str));have i3:Is (upd Hb t3 (.tup ((cL "leaf").map V.str))) (yE (cR "leaf")) (.ref t3):=by rw[Abw aY];exact Is.new (ds:=(cL "leaf").map D.str) (ko (Iq _ aY).2.2.2.2) h3
  have au:=i2.mono n3.tk;have aw:=O.trans n3;clear n2 O i2;have bE:(cL "leaf").map V.str= [V.str "text a leaf",V.str "ask b a",V.str "say b"]:=by decide+kernel
  rw[bE] at n3 i3 au aw;generalize upd Hb t3 (.tup [V.str "text a leaf",V.str "ask b a",V.str "say b"])=Hc at n3 i3 au aw⊢
  exists sml rfl,λt4 h4=>?_;have n4:=qf h4 (.tup [V.str "rule",V.ref t3]);have i4:Is (upd Hc t4 (.tup [V.str "rule",V.ref t3])) (m7 "leaf") (.ref t4):=Is.new (ds:= [.str "rule",yE (cR "leaf")]) ⟨_,0,Qb (),_,0,i3,1⟩ h4
  have aN:=au.mono n4.tk;have aO:=aw.trans n4;clear n3 i3 au aw;generalize upd Hc t4 (.tup [V.str "rule",V.ref t3])=Hd at n4 i4 aN aO⊢
  exists sml rfl,λt5 h5=>?_;have n5:=qf h5 (.tup [V.str "beside",V.ref t4]);have i5:Is (upd Hd t5 (.tup [V.str "beside",V.ref t4])) (prD ("beside",m7 "leaf")) (.ref t5):=Is.new (ds:= [.str "beside",m7 "leaf"]) ⟨_,0,Qb (),_,0,i4,1⟩ h5
  have aP:=aN.mono n5.tk;have ax:=aO.trans n5;clear n4 i4 aN aO;generalize upd Hd t5 (.tup [V.str "beside",V.ref t4])=He at n5 i5 aP ax⊢
  exists sml rfl,λZ ae=>q6 _ _ ?_;have R7:=R6.same ax;have aQ:=ax _ _ e6;have aZ:=aK R7.k R7.p ae;have ay:=(R7.p.free ae).symm;have bF:Z≠L:=(qi R7.l ae).symm;have bG:Z≠W:=(qi R7.w ae).symm;have aA:Z≠d:=(qi aQ ae).symm;have m8:=qf ae (.lst [V.ref t2,V.ref t5]);have R8:=R7.same m8;have aR:=m8 _ _ aQ;have e8:upd He Z (.lst [V.ref t2,V.ref t5]) Z=u_ (.lst [V.ref t2,V.ref t5]):=qg;have i8:L2.IsL (upd He Z (.lst [V.ref t2,V.ref t5])) (([("leaf",lfX),("beside",m7 "leaf")]:oq (Str×D)).map prD) [V.ref t2,V.ref t5]:=⟨_,0,aP.mono m8.tk,_,0,i5.mono m8.tk,1⟩;generalize upd He Z (.lst [V.ref t2,V.ref t5])=H8 at m8 R8 aR e8 i8⊢;clear R6 R7 ax n5 i5 aP e6 aQ ae q6 m8 h1 h2 h3 h4 h5;generalize ([V.ref t2,V.ref t5]:oq V)=al at e8 i8;exists 8,N7,q7
  exists 0,m,1,(),()
  let J7_:Nat->L2.St->Hp->Prop:=λi σ H'=>∃u6,σ= [u_ (.ref p),u_ (.int (m:Int)),u_ (.ref L),u_ (.ref W),u_ (.ref d),u_ (.ref Z),u6,U_,U_]/\RS H H' p L W m w/\H' d=u_ (.dK (nxV (rgL m i)))/\H' Z=u_ (.lst al)/\L2.IsL H' (([("leaf",lfX),("beside",m7 "leaf")]:oq (Str×D)).map prD) al
  refine Xt (n:=m) J7_ ⟨0,R8,aR,e8,i8⟩ ?_ ?_
  ·rintro i σ H' hi ⟨u6,rfl,R,ed,ep,ip⟩;have e0:(0+(i:Int))=(i:Int):=by omega
   have bH:(i+1)%m<m:=Fi _ ()
   have e2:((i:Int)+1)%(m:Int)=(((i+1)%m:Nat):Int):=by rw[Int.natCast_emod,Int.natCast_add];rfl
   rw[e0]
   exists 0,0,_,0,1,0,_,0,1,()
   rw[e2]
   exists L,_,_,0,1,SqL.of R.l,qC (by rw[uC,Aal bH];rfl),0,0,0,L,_,_,0,1,SqL.of R.l,qC (by rw[uC,Aal hi];rfl),d,0,CQ.k (k:=V3 (rK i)) ed (by rw[Eh];unfold rgL;rw[u9,Uv];omega)
   have tk:=Tk.updD (ys:=lm (nxV (rgL m i)) (V3 (rK i)) (.str (rK ((i+1)%m)))) ed
   exists 5
   refine⟨0,R.upd aL ag ndL aM,?_,by rwa[qh aA],ip.mono tk⟩
   have aS:rK i∉(rgL m i).map (·.1):=λz=>by
    rw[Aag] at z;have:=(BW (m:=i+1) (w:=0) () ())
    unfold rL iL at this;rw[vY,um] at this;have:=(List.nodup_append.mp (List.nodup_append.mp this).1).2.2 _ z _ (Ab.mpr rfl);exact this rfl
   rw[qg,Xl _ (OR aS)];unfold nxV rgL;rw[vY,um,um]
   rfl
  rintro σ H9 ⟨u6,rfl,R9,a4,a5,a6⟩;refine q7 _ _ ?_;clear R8 aR e8 i8 q7;exists 8,N8,q8
  exists 0,W,0,.inl (SqL.of R9.w),w,(by rw[u9,XM]),(),()
  have aT:(rgL m m).map (·.1)=rL m:=Aag m m;have a7:∀q∈rgL m m,q.2∈rL m:=λq hq=>by
   erw[Ae.mp hq,j,hj,rfl];exact Ae.mpr [_:List.mem_range.mpr (Fi _ ()):1]
  let J8_:Nat->L2.St->Hp->Prop:=λi σ H'=>∃(u6:ot V) (ws:oq (Str×Str)),σ= [u_ (.ref p),u_ (.int (m:Int)),u_ (.ref L),u_ (.ref W),u_ (.ref d),u_ (.ref Z),u6,U_,U_]/\RS H H' p L W m w/\H' d=u_ (.dK (nxV (rgL m m++ws)))/\ws.map (·.1)=iL i/\(∀q∈ws,q.2∈rL m++iL i)/\H' Z=u_ (.lst al)/\L2.IsL H' (([("leaf",lfX),("beside",m7 "leaf")]:oq (Str×D)).map prD) al
  refine Xt (n:=w) J8_ ⟨_,[],1,R9,by rwa[uX],1,(λq hq=>by cases hq),a5,a6⟩ ?_ ?_
  ·rintro i σ H' hi ⟨u6,ws,rfl,R,ed,ah,aB,ep,ip⟩;have e0:(0+(i:Int))=(i:Int):=by omega
   rw[e0];have bI:↑ws=i:=by have:=A9 Vv ah;rwa[u9,XM] at this
   have bJ:((iL w).map V.str).take i=(iL i).map V.str:=by
    rw[<-t_];unfold iL;rw[<-t_,List.take_range,UM ()]
   exists 0,0,0,0,W,0,SqL.of R.w,λq hq=>?_;rw[LC,bJ];have n1:=qf hq (.lst ((iL i).map V.str));have R1:=R.same n1;have e1:upd H' q (.lst ((iL i).map V.str)) q=u_ (.lst ((iL i).map V.str)):=qg;show Ab1 _ _ (upd H' q (.lst ((iL i).map V.str))) _;generalize upd H' q (.lst ((iL i).map V.str))=Ha at n1 R1 e1⊢
   exists 5
   refine⟨L,q,_,0,1,R1.l,e1,by rw[u9,u9,Xy,XM];omega,λr aa=>?_⟩
   rw[<-um];have n2:=qf aa (.lst ((rL m++iL i).map V.str));have R2:=R1.same n2;have e2:upd Ha r (.lst ((rL m++iL i).map V.str)) r=u_ (.lst ((rL m++iL i).map V.str)):=qg;have O:=n1.trans n2;clear n1 R1 e1
   exists 0,0,0,_,0,1,p,0,R2.p,(),(),λc H3 c0 c1 P3 K3=>?_
   have R3:=R2.kp P3 K3;have e3:=K3 _ _ e2 (R2.p.ne_strs e2);obtain⟨n,rfl,hn⟩:∃n:Nat,c=(n:Int)/\n<m+i:=[c.toNat:():()]
   have a8:n<↑(rL m++iL i):=by rwa[uJ,Xy,XM]
   have ac:=K3 _ _ (O _ _ ed) ag;have ad:=K3 _ _ (O _ _ ep) ay;have ak:=ip.mono (O.tk.trans (R2.p.tk P3 K3));clear n2 O R2 e2 K3
   exists r,_,_,V.str (rL m++iL i)[n],1,1,SqL.of e3,qC (by rw[uC,uc a8];rfl),0,0,0,W,_,_,0,1,SqL.of R3.w,qC (by rw[uC,AcS hi];rfl),d,0,CQ.k (k:=V3 (iK i)) ac (by rw[Eh,uJ,bI];unfold rgL;rw[u9,Uv];omega)
   have hz:=uV a8;generalize (rL m++iL i)[n]=z at hz⊢;have tk:=Tk.updD (ys:=lm (nxV (rgL m m++ws)) (V3 (iK i)) (.str z)) ac;have aS:iK i∉(rgL m m++ws).map (·.1):=λz=>by
    rw[um,aT,ah] at z;have:=(BW (m:=m) (w:=i+1) () ())
    unfold iL at this z;rw[vY,um,<-vB] at this;exact(List.nodup_append.mp this).2.2 _ z _ (Ab.mpr rfl) rfl
   have a9:iL (i+1)=iL i++ [iK i]:=by unfold iL;rw[vY,um];rfl
   exists 5
   refine⟨_,ws++ [(iK i,z)],1,R3.upd aL ag ndL aM,?_,by rw[um,ah,a9];rfl,λy U=>?_,by rwa[qh aA],ak.mono tk⟩
   ·rw[qg,Xl _ (OR aS),<-vB];unfold nxV;rw[um (l₂:= [(iK i,z)])]
    rfl
   ·rw[a9,<-vB];rcases Ac.mp U with U|U
    ·exact vh _ (aB y U)
    ·cases Ab.mp U;exact vh _ hz
  rintro σ HA ⟨u6,ws,rfl,RA,bb,ah,aB,bc,bK⟩;refine q8 _ _ ?_;clear R9 a4 a5 a6 q8;have hf:(rgL m m++ws).map (·.1)=rL m++iL w:=by rw[um,aT,ah]
  have am:∀y∈rgL m m++ws,y.2∈rL m++iL w:=λy U=>by
   rcases Ac.mp U with U|U
   ·exact vh _ (a7 y U)
   ·exact aB y U
  have ao:∀z∈rL m++iL w,z∈RW:=λz hz=>by
   rcases Ac.mp hz with hz|hz
   ·erw[Ae.mp hz,j,hj,rfl];exact Acw (by have:=List.mem_range.mp hj;omega)
   ·erw[Ae.mp hz,j,hj,rfl];exact AcT (by have:=List.mem_range.mp hj;omega)
  have af:↑(rgL m m++ws)=m+w:=by have:=A9 Vv hf;rw[u9] at this;rw[this,uJ,Xy,XM]
  have aE:∀i,i<↑(rL m)->((rgL m m++ws).map (·.1))[i]? =(rL m)[i]? :=λi hi=>by rw[hf,U8 hi]
  generalize rgL m m++ws=nx at bb hf am af aE;have bd:(nx.map (·.1)).Nodup:=by rw[hf];exact BW aX hw
  clear aT a7 ah aB;exists 8,N9,q9
  exists 5
  refine⟨0,0,L,W,_,0,1,RA.l,RA.w,by rw[u9,u9,Xy,XM];omega,λq hq=>?_⟩
  rw[<-um];have nB:=qf hq (.lst ((rL m++iL w).map V.str));have bf:upd HA q (.lst ((rL m++iL w).map V.str)) q=u_ (.lst ((rL m++iL w).map V.str)):=qg;have RB:=RA.same nB;have bL:=nB _ _ bb;have bM:=nB _ _ bc;have bN:=bK.mono nB.tk;have bO:q≠Z:=(qi bc hq).symm
  exists q,1,[_:SqL.of bf]
  let J9_:Nat->L2.St->Hp->Prop:=λi σ H'=>∃(u7 u8:ot V) (us:oq V) (ps:oq (Str×D)),σ= [u_ (.ref p),u_ (.int (m:Int)),u_ (.ref L),u_ (.ref W),u_ (.ref d),u_ (.ref Z),u6,u7,u8]/\RS H H' p L W m w/\H' d=u_ (.dK (nxV nx))/\H' q=u_ (.lst ((rL m++iL w).map V.str))/\H' Z=u_ (.lst us)/\L2.IsL H' (ps.map prD) us/\PsI nx i ps
  have bg:("leaf":Str)∈NMS:=by decide+kernel
  refine kj (K:=K) (a:=q) (xs:=(rL m++iL w).map V.str) J9_ ⟨_,_,al,0,RB,bL,bf,bM,bN,⟨(by rw[FU,uX];exact Rs _),?_,ui,uj _ ui,λj p hj=>A8 hj (HX j)⟩⟩ (λi σ H' _ h=>by erw[h,_,_,_,_,_,_,_,e,_];exact SqL.of e) ?_ ?_
  ·intro r aa;rcases Aa.mp aa with rfl|aa
   ·exact AaY
   ·cases Ab.mp aa;exact Dg bg
  ·rintro i x σ H' hx ⟨u7,u8,us,ps,rfl,R,ed,eq,ep,ip,hI⟩;rw[<-hf,uC,uC] at hx;obtain⟨y,U,rfl⟩:∃y,nx[i]? =u_ y/\x=V.str y.1:=by
    cases U:nx[i]? with
    |none=>rw[U] at hx;cases hx
    |some y=>rw[U] at hx;cases hx;exact[y:1:1]
   have hi:i<m+w:=by rw[<-af];exact(Ag.mp U).1
   have aU:=uN U;have aC:=Yx (ao _ (am y aU));have bP:=Yx (ao y.1 (by rw[<-hf];exact Ae.mpr [y:aU:1]))
   have l1:=(yK _ bP).2.1;have l2:=(yK _ aC).2.1;have bh:↑ps=2+i:=by
    have:=hI.pm.length_eq;rw[u9,uJ,vy,u9,af] at this;rw[this];show 2+min i (m+w)=2+i;omega
   have b8:↑us=2+i:=by rw[↑ip,u9,bh]
   show ni _ _ _ _ H';exists 8,B1,b1;have aF:u_ (V.str y.2)=iJ (nxV nx) (V3 y.1):=(wg bd aU).symm
   exists 0,0,d,0,.inl ⟨_,V3 y.1,.inl ed,1,aF⟩,_,0,1,CT (by show 7+↑y.2<=_;omega),sml rfl,λt1 h1=>?_
   have n1:=qf h1 (.tup ((cL y.2).map V.str));have i1:Is (upd H' t1 (.tup ((cL y.2).map V.str))) (yE (cR y.2)) (.ref t1):=by rw[Abw aC];exact Is.new (ds:=(cL y.2).map D.str) (ko (Iq _ aC).2.2.2.2) h1
   exists sml rfl,λt2 h2=>b1 _ _ ?_;have h2:upd H' t1 (.tup ((cL y.2).map V.str)) t2=none:=h2;have n2:=qf h2 (.tup [V.str "rule",V.ref t1]);have i2:Is (upd (upd H' t1 (.tup ((cL y.2).map V.str))) t2 (.tup [V.str "rule",V.ref t1])) (m7 y.2) (.ref t2):=Is.new (ds:= [.str "rule",yE (cR y.2)]) ⟨_,0,Qb (),_,0,i1,1⟩ h2
   have O:=n1.trans n2;show cl _ _ _ _ _ (upd (upd H' t1 (.tup ((cL y.2).map V.str))) t2 (.tup [V.str "rule",V.ref t1]));clear n1 i1 n2;generalize upd (upd H' t1 (.tup ((cL y.2).map V.str))) t2 (.tup [V.str "rule",V.ref t1])=Hb at i2 O⊢;exists 8,B2,b2;have aG:∀(sv:V) (src:D) (H3:Hp),RS H H3 p L W m w->H3 d=u_ (.dK (nxV nx))->H3 q=u_ (.lst ((rL m++iL w).map V.str))->H3 Z=u_ (.lst us)->L2.IsL H3 (ps.map prD) us->Is H3 src sv->(src=m7 y.2∨src=Iz y.2)->B2 [u_ (.ref p),u_ (.int (m:Int)),u_ (.ref L),u_ (.ref W),u_ (.ref d),u_ (.ref Z),u6,u_ (.str y.1),u_ sv] H3:=by
    intro sv src H3 R3 ac ap ad ak bQ bo;refine b2 _ _ ?_
    exists 0,.inl [1:_:SqL.of ad],0,0,Z,us,1,.inl (SqL.of ad),_,0,1,p,0,R3.p,(),(),λc H4 c0 c1 P4 K4=>?_
    obtain⟨n,rfl,hn⟩:∃n:Nat,c=(n:Int)/\n<=↑us:=[c.toNat:():()]
    have bp:=R3.p.tk P4 K4;have R4:=R3.kp P4 K4;have bR:=K4 _ _ ac ag;have bS:=K4 _ _ ap (R3.p.ne_strs ap);have bT:=K4 _ _ ad ay;have bU:=ak.mono bp;have bV:=bQ.mono bp
    exists 0,0,sml rfl,λt3 h3=>?_;have n3:=qf h3 (.tup [V.str y.1,sv]);have i3:Is (upd H4 t3 (.tup [V.str y.1,sv])) (prD (y.1,src)) (.ref t3):=Is.new (ds:= [.str y.1,src]) ⟨_,0,Qb (),_,0,bV,1⟩ h3
    have R5:=R4.same n3;have bq:=n3 _ _ bR;have bt:=n3 _ _ bS;have aV:=n3 _ _ bT;have bu:=bU.mono n3.tk;show DK _ _ (upd H4 t3 (.tup [V.str y.1,sv])) _;generalize upd H4 t3 (.tup [V.str y.1,sv])=H5 at i3 R5 bq bt aV bu⊢
    exists Z,us,n,0,1,aV,hn,()
    have bW:Tk H5 (upd H5 Z (.lst (us.take n++ .ref t3::us.drop n))):=Tk.updL aV;exact⟨_,_,us.take n++ .ref t3::us.drop n,ps.take n++(y.1,src)::ps.drop n,1,R5.upd aZ ay bF bG,by rwa[qh aA.symm],by rwa[qh bO],qg,(Abc n bu i3).mono bW,hI.ins U bo aC⟩
   have R2:=R.same O
   exists 0,p,(4),1,R2.p,(),(),λc H3 c0 c1 P3 K3=>[1:0:?_]
   have R3:=R2.kp P3 K3;have bw:=R2.p.tk P3 K3;have ac:=K3 _ _ (O _ _ ed) ag;have ap:=K3 _ _ (O _ _ eq) (R2.p.ne_strs (O _ _ eq));have ad:=K3 _ _ (O _ _ ep) ay;have ak:=ip.mono (O.tk.trans bw);by_cases cc:c=0
   ·refine lN (uh (by rw[cc])) ?_
    exists 0,0,d,0,.inl ⟨_,V3 y.1,.inl ac,1,aF⟩,sml rfl,λt3 h3=>?_;have n3:=qf h3 (.tup [V.str "made",V.str y.2]);exact aG _ (Iz y.2) _ (R3.same n3) (n3 _ _ ac) (n3 _ _ ap) (n3 _ _ ad) (ak.mono n3.tk) (Is.new (ds:= [.str "made",.str y.2]) ⟨_,0,Qb (),_,0,Qb (),1⟩ h3) (.inr rfl)
   ·exact iR (ug (λy=>cc (V.int.inj y))) (aG _ (m7 y.2) _ R3 ac ap ad ak (i2.mono bw) (.inl rfl))
  rintro σ HC ⟨u7,u8,us,ps,rfl,RC,bx,_,bX,bY,hI⟩;refine q9 _ _ ?_;rw[u9,uJ,Xy,XM] at hI;have bZ:(nx.map (·.1)).take (m+w)=rL m++iL w:=by rw[hf];exact vf (by rw[uJ,Xy,XM];exact uA _)
  have aD:=hI.pm;rw[bZ] at aD;have bA:∀z∈ps.map (·.1),z∈NMS:=λz hz=>by
   rcases Ac.mp (aD.mem_iff.mp hz) with h|h
   ·exact uP _ h
   ·exact Yx (ao z h)
  have aq:Ab5 ps:=by
   exists [λz hz=>(yK z (bA z hz)).1:aD.nodup_iff.mpr ?_],hI.so;rw[Uc]
   exists by decide+kernel,BW aX hw,λx hx z hz e=>?_
   have:=Kw (ao z hz);simp![uH,uI,uS] at hx;rcases hx with rfl|rfl
   ·exact this.1 e.symm
   ·exact this.2 e.symm
  have bh:↑ps=2+(m+w):=by
   have:=aD.length_eq
   rwa[u9,uJ,uJ,Xy,XM] at this
  exists d,nxV nx,bx,λo=>?_;have tt:∀b xs,HC b=u_ (.tup xs)->upd HC d (.frz o (.dK (nxV nx))) b=u_ (.tup xs):=λb xs e=>by
   rw[qh (λz=>by rw[z,bx] at e;cases e)]
   exact e
  have RD:RS H (upd HC d (.frz o (.dK (nxV nx)))) p L W m w:=RC.upd aL ag ndL aM;have bB:upd HC d (.frz o (.dK (nxV nx))) Z=u_ (.lst us):=by rwa[qh aA]
  have bC:upd HC d (.frz o (.dK (nxV nx))) d=u_ (.frz o (.dK (nxV nx))):=qg;have bD:L2.IsL (upd HC d (.frz o (.dK (nxV nx)))) (ps.map prD) us:=isL_lw tt (Me λr aa=>[aq.1.1 _ (Ae.mpr [r:aa:1]):aq.2 r aa]) bY;generalize upd HC d (.frz o (.dK (nxV nx)))=HD at RD bB bC bD⊢
  exists 0,0,0,sml rfl,λt ht=>?_;have nE:=qf ht (.tup [V.ref Z,V.ref d,V.ref L]);have RE:=RD.same nE;exact k t Z d L us ps nx (rL m) _ RE.k RE.p qg (nE _ _ bB) (bD.mono nE.tk) [o:nE _ _ bC] RE.l ⟨aq,(),bd,λy U=>ao _ (by rw[<-hf];exact Ae.mpr [y:U:1]),λy U=>by rw[hf];exact am y U,λy U=>by
   erw[vV U,j,hj];exact hI.dt j y (by rw[<-af];exact(Ag.mp hj).1) hj,hI.lf,hI.bs,by rw[Xy];omega,by rw[Xy];omega,(),aE⟩
 exists 0,p,(8),1,P1,(),(),λc2 H2 a2 b2 P2 K2=>[1:0:?_]
 by_cases c:c2=7
 ·refine lN (uh (by rw[c])) ?_
  exists 5
  refine⟨0,p,(34),1,P2,(),(),λc3 H3 a3 b3 P3 K3=>⟨_,0,1,aW _ (7+c3).toNat H3 () () () P3 ((K1.trans K2).trans K3)⟩⟩
 ·exact iR (ug (λy=>c (V.int.inj y))) (aW _ (1+c1).toNat H2 () () () P2 (K1.trans K2))
end
nonrec def Ex:D->Str
 | .tup (.str z::_)=>z
 |_=>""
def Av {K:o0}{b A:o6}{H1:Hp}{tc:TT}{te:TE}{tl:L2.St}{Q:VK}{ds:oq D}{vs:oq V}(p:D->Bool)(f:D->D)(ha:H1 b=u_ (.lst vs))(hl:L2.IsL H1 ds vs)(hn:↑ds<=V5)(hA:H1 A=U_)
  (Z:∀d x H (R:Bool->Hp->Prop),d∈ds->ig H1 H->Is H d x->R (p d) H->tc (u_ x::tl) H R)
  (aa:∀d x H (R:VK),d∈ds->p d=v_->ig H1 H->Is H d x->(∀y H',ig H H'->Is H' (f d) y->R y H')->te (u_ x::tl) H R)
  (hQ:∀H' ys,ig H1 H'->H' A=u_ (.lst ys)->L2.IsL H' ((ds.filter p).map f) ys->Q (.ref A) H'):CS A (Itl K b) (YV 0) tc te (U_::tl) H1 Q:=by
 have ln:=↑hl;exists ↑ds,λi σ ys H=>(∃w,σ=w::tl)/\L2.IsL H (((ds.take i).filter p).map f) ys/\ig H1 H,hn,[[U_:1]:1:qf hA _],?_,?_
 ·rintro i σ ys H hi ⟨⟨w,rfl⟩,O,sm⟩ U ad;have ac:i<↑vs:=by omega
  exists ⟨vs,vs[i],SqL.of (sm _ _ ha),uc ac⟩;rintro x H' ⟨rfl,hx⟩;have e:=hx vs (SqL.of (sm _ _ ha));erw[hl.get (uc hi),v,e1,e2];rw[e] at e1;cases e1;have et:ds.take (i+1)=ds.take i++ [ds[i]]:=by rw[vc,uc hi];rfl
  try dsimp![YV,gN]
  refine Z ds[i] x H' _ (uV hi) sm (e2.mono sm.tk) ?_;cases hp:p ds[i] with
  |true=>
   refine lq (aa ds[i] x H' _ (uV hi) hp sm (e2.mono sm.tk) λy H2 s2 iy=>⟨s2 _ _ U,⟨0⟩,?_,λc o e=>?_⟩)
   ·rw[et,UP,um];have: [ds[i]].filter p= [ds[i]]:=by simp[hp]
    rw[this];have t:Tk H2 (upd H2 A (.lst (ys++ [y]))):=Tk.updL (s2 _ _ U);exact((O.mono s2.tk).mono t).append (L2.IsL.one (iy.mono t))
   ·rw[qh (qi e hA)];exact s2 _ _ (sm _ _ e)
  |false=>
   refine iU ⟨U,⟨0⟩,?_,sm⟩;rw[et,UP];have: [ds[i]].filter p= []:=by simp[hp]
   rwa[this,uX]
 ·rintro σ ys H ⟨_,O,sm⟩ U;rw[vU] at O;exact[[vs:SqL.of (sm _ _ ha):()]:hQ H ys sm U O]
def Bm {α β:Type}{f:α->β}{es m:oq β}(h:es.Perm m):∀l:oq α,m=l.map f->∃R:oq α,R.Perm l/\es=R.map f:=by
 induction h with
 |nil=>
  intro l e;cases l with
  |nil=>exact[[]:Rs _:1]
  |cons _ _=>cases e
 |cons x h ih=>
  intro l e;cases l with
  |nil=>cases e
  |cons y l=>
   rw[uD] at e;injection e with O e2
   erw[ih l e2,R,h1,h2];exact⟨y::R,h1.cons y,by rw[uD,O,h2]⟩
 |swap x y l'=>
  intro l e
  match l,e with
  | [],e=>cases e
  | [_],e=>cases e
  |b::c::l,e=>
   rw[uD,uD] at e;injection e with O e2
   injection e2 with e2 e3
   exact⟨c::b::l,p6 ..,by rw[uD,uD,<-O,<-e2,e3]⟩
 |trans h1 h2 U Z=>
  intro l e;erw[Z l e,R2,a1,a2];erw[U R2 a2,R1,b1,b2];exact[R1:b1.trans a1:b2]
nonrec def AaT (nx:oq (Str×Str))(z:Str):Str:=((nx.find? λp=>decide (p.1=z)).map (·.2)).getD ""
def Aq {nx:oq (Str×Str)}(hn:(nx.map (·.1)).Nodup){p:Str×Str}(Z:p∈nx):AaT nx p.1=p.2:=by
 unfold AaT;cases h:nx.find? (λq=>decide (q.1=p.1)) with
 |none=>exact A8 (uh rfl) (List.find?_eq_none.mp h p Z)
 |some q=>
  have e:q.1=p.1:=uq (UN (p:=λq:Str×Str=>decide (q.1=p.1)) h);have hq:=vN h;erw[vV Z,i,hi];erw[vV hq,j,O];have U:i=j:=(List.getElem?_inj (l:=nx.map (·.1)) (by rw[u9];exact(Ag.mp hi).1) hn).mp (by rw[uC,uC,hi,O];exact A9 u_ e.symm)
  rw[<-U,hi] at O;cases O
  rfl
section
variable {qs:oq (Str×D)}{nx:oq (Str×Str)}{R:Pp}
noncomputable abbrev CL (nx:oq (Str×Str))(R:Pp):Prop:=R.Perm (nx.map stW++ [stB])
def Z5 (h:CL nx R)(s:Str×oq D×D):s∈R↔(∃p∈nx,s=stW p)∨s=stB:=by
 rw[h.mem_iff,Ac,Ae,Ab];exact[λh=>h.imp (λ⟨p,h1,h2⟩=>[p:h1:h2.symm]) id:λh=>h.imp (λ⟨p,h1,h2⟩=>[p:h1:h2.symm]) id]
def fW (nx:oq (Str×Str)):(nx.map stW).map (·.1)=nx.map (·.1):=by rw[uO];rfl
def nW (O:RG qs nx)(h:CL nx R):(R.map (·.1)).Nodup:=by
 refine(h.map (·.1)).nodup_iff.mpr ?_;rw[um,fW,Uc];exists O.nd,List.nodup_cons.mpr [uI:vC],λx U y Z e=>?_;erw[Ae.mp U,p,hp,rfl];cases Ab.mp Z;exact(Kw (O.nms p hp)).2 e
def W9 (h:CL nx R):↑R=↑nx+1:=by rw[h.length_eq,uJ,u9];rfl
def L7 (h:CL nx R)(z:Str):z∈R.map (·.1)↔z∈nx.map (·.1)∨z="beside":=by
 rw[(h.map (·.1)).mem_iff,um,fW,Ac];exact[λh=>h.imp id λh=>Ab.mp h:λh=>h.imp id λh=>Ab.mpr h]
variable {p0:Str×Str}
def ST {k:Str}{t:D}{p:Str×Str}:stS k t p0≠stW p:=λe=>by
 unfold stS stW at e;injection e with _ e
 injection e with e _
 cases e
def SU (O:RG qs nx){k:Str}{t:D}(U:p0∈nx):stS k t p0≠stB:=λe=>(Kw (O.nms p0 U)).2 (A9 (·.1) e)
section
variable {k:Str}{t:D}{p0:Str×Str}
def Aas (hq:Qw qs)(O:RG qs nx)(Z:p0∈nx)(hl:↑nx<=100)(h:CL nx R):PpB qs R true:=by
 refine Bq hq O Z (k:="thing") (t:= .str "x") (.inl rfl) () (nW O h) (by rw[W9 h];omega) (λs hs=>((Z5 h s).mp hs).imp id .inl) [λ_=>[λz=>?_:λp U _=>(L7 h _).mpr (.inl (O.sub p U))]:λ_=>rfl]
 rcases(Z5 h _).mp z with⟨p,_,e⟩|e
 ·exact ST e
 ·exact SU O Z e
nonrec def Ob (z:Str)(s0:Str×oq D×D)(R:Pp):Pp:=R.map λs=>if s.1=z then s0 else s
def AaF:(Ob p0.1 (stS k t p0) R).map (·.1)=R.map (·.1):=by
 unfold Ob;rw[uO];refine vZ λs _=>?_;show(if s.1=p0.1 then stS k t p0 else s).1=s.1
 by_cases c:s.1=p0.1
 ·rw[A6 c];exact c.symm
 ·rw[A4 c]
def Aat (hq:Qw qs)(Z:RG qs nx)(hp:p0∈nx)(hk:k="thing"∨k="rule")(ht:isT t=v_)(hl:↑nx<=100)(h:CL nx R):PpB qs (Ob p0.1 (stS k t p0) R) false:=by
 have O:stS k t p0∈Ob p0.1 (stS k t p0) R:=Ae.mpr [stW p0:(Z5 h _).mpr (.inl [p0:hp:1]):A6 rfl];refine Bq hq Z hp hk ht (by rw[AaF];exact nW Z h) (by unfold Ob;rw[u9,W9 h];omega) (λs hs=>?_) ⟨λz=>(by cases z),λz=>A8 O z.1⟩
 erw[Ae.mp hs,s',U,rfl];by_cases c:s'.1=p0.1
 ·rw[A6 c];exact .inr (.inr rfl)
 ·rw[A4 c];exact((Z5 h _).mp U).imp id .inl
nonrec def mT (z:Str)(R:Pp):Pp:=R.filter λs=>decide (s.1≠z)
def YL {s:Str×oq D×D}:s∈mT z R↔s∈R/\s.1≠z:=by unfold mT;rw[Af,vi]
def BN {y:Str}:y∈(mT z R).map (·.1)↔y∈R.map (·.1)/\y≠z:=by
 constructor
 ·intro h;erw[Ae.mp h,s,O,rfl];exact[Ae.mpr [s:(YL.mp O).1:1]:(YL.mp O).2]
 ·rintro⟨h,hn⟩;erw[Ae.mp h,s,O,rfl];exact Ae.mpr [s:YL.mpr [O:hn]:1]
def E2 (O:RG qs nx)(h:CL nx R)(z:Str):((mT z R).map (·.1)).Nodup:=(nW O h).sublist (List.filter_sublist.map _)
def ka (h:CL nx R)(z:Str):↑(mT z R)<=↑nx+1:=by rw[<-W9 h];exact Uq _ _
def Aau (hq:Qw qs)(U:RG qs nx)(hp:p0∈nx)(hl:↑nx<=100)(h:CL nx R){b:Bool}(hb:b=v_↔∀p∈nx,p.1≠p0.1->p.2≠p0.1):PpB qs (mT p0.1 R) b:=by
 refine Bq hq U hp (k:="thing") (t:= .str "x") (.inl rfl) () (E2 U h _) (by have:=ka h p0.1;omega) (λs hs=>((Z5 h s).mp (YL.mp hs).1).imp id .inl) (hb.trans [λZ=>[λz=>(YL.mp z).2 rfl:λp O aa=>?_]:λZ p O ac=>?_])
 ·exact BN.mpr [(L7 h _).mpr (.inl (U.sub p O)):Z p O (YL.mp aa).2]
 ·exact(BN.mp (Z.2 p O (YL.mpr [(Z5 h _).mpr (.inl [p:O:1]):ac]))).2
def AcB (Z:Qw qs)(U:RG qs nx)(hp:p0∈nx)(hk:k="thing"∨k="rule")(ht:isT t=v_)(hl:↑nx<=100)(h:CL nx R):PpB qs (mT p0.1 R++ [stS k t p0]) false:=by
 refine Bq Z U hp hk ht ?_ (by have:=ka h p0.1;rw[uJ];show _+1<=1000;omega) (λs O=>?_) ⟨λz=>(by cases z),λz=>A8 (uP _ (Ab.mpr rfl)) z.1⟩
 ·rw[um,Uc];exists E2 U h _,List.nodup_cons.mpr [uI:vC],λx hx y hy e=>?_;cases Ab.mp hy;exact(BN.mp hx).2 e
 ·rcases Ac.mp O with O|O
  ·exact((Z5 h s).mp (YL.mp O).1).imp id .inl
  ·exact .inr (.inr (Ab.mp O))
def Aar (O:RG qs nx)(h0:0<↑nx)(Z:isT t=v_)(hl:↑nx<=100)(h:R.Perm (Df qs t nx)):PpB qs R false:=by
 have U:↑R=↑nx:=by rw[h.length_eq];unfold Df;rw[u9]
 refine AbD O (kf:=λp=>IA (qB qs p.1)) (λp=>O4 _) Z ?_ () () λs hs=>?_
 ·refine(h.map (·.1)).nodup_iff.mpr ?_;unfold Df;rw[uO];exact O.nd
 ·erw[Ae.mp (h.mem_iff.mp hs),p,hp,e];exact[p:hp:e.symm]
def Tm (U:RG qs nx)(h:CL nx R){p:Str×Str}(Z:p∈nx)(z:Str):shD qs (mT z R) p.1= .non∨∃y,shD qs (mT z R) p.1=lP y:=by
 by_cases c:p.1∈(mT z R).map (·.1)
 ·right;have O:stW p∈mT z R:=YL.mpr [(Z5 h _).mpr (.inl [p:Z:1]):(BN.mp c).2];exact[p.2:(NG (E2 U h z) O).trans (Iv p.2)]
 ·exact .inl (S9 U Z c)
nonrec def wtL (nx:oq (Str×Str))(F:Pp):oq Str:=(F.filter λs=>decide (s.1∈nx.map (·.1))).map λs=>AaT nx s.1
def LP (hG:RG qs nx)(h:CL nx R):p0.1∈wtL nx (mT p0.1 R)↔¬∀p∈nx,p.1≠p0.1->p.2≠p0.1:=by
 constructor
 ·intro hw U;erw[Ae.mp hw,s,Z,e];rw[Af,YL] at Z;erw[Ae.mp (uq Z.2),p,O,ep];rw[<-ep,Aq hG.nd O] at e;exact U p O (by rw[ep];exact Z.1.2) e
 ·intro U;apply RT;intro hn;refine U λp O aa e=>hn (Ae.mpr [stW p:Af.mpr [YL.mpr [(Z5 h _).mpr (.inl [p:O:1]):aa]:uh (Ae.mpr [p:O:1])]:?_]);exact(Aq hG.nd O).trans e
end
end
def RgL.rg {ps:oq (Str×D)}{nx:oq (Str×Str)}{ns:oq Str}(h:RgL ps nx ns)(O:Qw qs)(U:qs.Perm ps):RG qs nx:=
 ⟨h.nd,h.nms,h.sub,λp Z=>(h.dat p Z).imp (λe=>zP O.1.1.2 (U.mem_iff.mpr e)) (λe=>zP O.1.1.2 (U.mem_iff.mpr e)),zP O.1.1.2 (U.mem_iff.mpr h.lf),zP O.1.1.2 (U.mem_iff.mpr h.bs)⟩
structure LSt (CP:o6)(H:Hp)(p d N x LW LY:o6)(bv:V)(uw uy:oq V)(qs:oq (Str×D))(nx:oq (Str×Str))(ns:oq Str)(t:D):Prop where
 p:mU H p
 d:AbK H d nx
 n:H N=u_ (.lst (ns.map V.str))
 x:Q7 CP H x qs
 b:Is H (stD stB) bv
 w:H LW=u_ (.lst uw)
 wi:L2.IsL H ((nx.map stW).map stD) uw
 y:H LY=u_ (.lst uy)
 yi:L2.IsL H ((Df qs t nx).map stD) uy
section
variable {CP:o6}{H H2:Hp}{p d N x LW LY:o6}{bv:V}{uw uy:oq V}{qs:oq (Str×D)}{nx:oq (Str×Str)}{ns:oq Str}{t:D}
def LSt.same (h:LSt CP H p d N x LW LY bv uw uy qs nx ns t)(s:ig H H2):LSt CP H2 p d N x LW LY bv uw uy qs nx ns t:=⟨h.p.same s,(by erw[h.d,o,e];exact[o:s _ _ e]),s _ _ h.n,h.x.same s,h.b.mono s.tk,s _ _ h.w,h.wi.mono s.tk,s _ _ h.y,h.yi.mono s.tk⟩
def LSt.kp (h:LSt CP H p d N x LW LY bv uw uy qs nx ns t)(hP:mU H2 p)(O:mH p H H2)(h1:LW≠p)(h2:LY≠p):LSt CP H2 p d N x LW LY bv uw uy qs nx ns t:=by
 have tk:=h.p.tk hP O;erw[id h.p,y0,U,_];exists hP,?_,O _ _ h.n (h.p.ne_strs h.n),?_,h.b.mono tk,O _ _ h.w h1,h.wi.mono tk,O _ _ h.y h2,h.yi.mono tk
 ·erw[h.d,o,e];exact⟨o,O _ _ e (λz=>by rw[z,U] at e;cases e)⟩
 ·erw[h.x,dx,dd,o,vs,Z,e2,e3,e4];exact⟨dx,dd,o,vs,O _ _ Z (λz=>by rw[z,U] at Z;cases Z),O _ _ e2 (λz=>by rw[z,U] at e2;cases e2),e3,e4.mono tk⟩
end
def oV (s:Str×oq D×D):Ex (stD s)=s.1:=rfl
def AcZ (z:Str)(R:Pp):(R.map stD).filter (λd=>decide (Ex d≠z))=(mT z R).map stD:=by
 unfold mT;rw[FR]
 rfl
def AcD (z:Str)(O:Str×oq D×D)(R:Pp):(R.map stD).map (λd=>if Ex d=z then stD O else d)=(Ob z O R).map stD:=by
 unfold Ob;rw[uO,uO];refine vZ λs _=>?_;show(if s.1=z then stD O else stD s)=stD (if s.1=z then O else s)
 by_cases c:s.1=z
 ·rw[A6 c,A6 c]
 ·rw[A4 c,A4 c]
def AdH (nx:oq (Str×Str))(F:Pp):((F.map stD).filter λd=>decide (Ex d∈nx.map (·.1))).map (λd=>D.str (AaT nx (Ex d)))=(wtL nx F).map D.str:=by
 unfold wtL;rw[FR,uO,uO]
 rfl
variable {j:Nat}{y:V}
def Pu {vs:oq V}(h:vs[j]? =u_ y):sU vs (u_ (j:Int)) (u_ ((j:Int)+1))= [y]:=by
 erw[Ag.mp h,O,rfl];unfold sU;have U:HT.sIx ↑vs 0 (u_ (j:Int))=j:=by rw[HT.sIx_nat,UM ()]
 have e2:HT.sIx ↑vs ↑vs (u_ ((j:Int)+1))=j+1:=by rw[show((j:Int)+1)=((j+1:Nat):Int) from rfl,HT.sIx_nat,UM ()]
 rw[U,e2,uU O,TM]
 rfl
def Jh (l:oq Str):(l.map V.str).all zi=true:=by
 rw[Us,U3];intro z _
 rfl
def Da {H:Hp}:∀{zs:oq Str}{vs:oq V},L2.IsL H (zs.map D.str) vs->vs=zs.map V.str
 | [],_,h=>h
 |z::r,_,h=>by
  erw[h,v,us,rfl,[rfl,_],h2];rw[Da h2]
  rfl
nonrec def LM (qs:oq (Str×D))(H:Hp)(v:V):Prop:=∃l us ps,v= .ref l/\H l=u_ (.lst us)/\L2.IsL H (ps.map stD) us/\PpB qs ps V1
variable {H':Hp}{v:V}
def LM.same (h:LM qs H v)(s:ig H H'):LM qs H' v:=by
 erw[h,l,us,ps,e,h1,h2,h3];exact⟨l,us,ps,e,s _ _ h1,h2.mono s.tk,h3⟩
nonrec def TR4:oq D:= [.str "x",.str "",.tup [.str "text a x",.str "say a"],.tup []]
def Si:∀t∈TR4,isT t=true:=by
 intro t O;simp![TR4,uH,uI,uS] at O;rcases O with rfl|rfl|rfl|rfl<;>decide+kernel
inductive LZ (K:PySem.W.Frag):Sp
 |mk (q:Addr)(ns:List Int)(_:vs= [.ref q])(_:SqL K H q (ns.map V.int))(_:↑ns<=63)(_:∀H',Q (.bl v_) H')
section
variable {P:oh}{w:oj}{K:o0}{mg:Str->ot o7}{base:og}{a:Ad}{g:Ga}
def AaO:#[C,18,a.f_law,a.d_law,["script"],(LZ K)]:=by
 have ah:=#[Oq,T];have Qy:=#[An,T];have ae:=#[Oo,T];have Wg:=#[Ox,T];have kz:=#[KO,T];have aa:=#[AaK,T];have Jt:=#[OC,T];have jQ:=#[AaN,T,C];have yD:=#[oK,T,C];have kS:=#[Br,T,C];have ad:=#[K8,T,C];refine T.BI.F.ok yL () (λ_ _ _ s H vs Q E hr h=>?_)
 erw[h,q0,bX,rfl,c8,dD,k];have hs:=uE;exists 3,%[#[qH,(1),yL.nd,#[qu,ah,hr.mono (),T.na,#v[#[qD,#[Il,1,rfl],T.z_sum,boot_sum,#v[pv 0]],qk]]],#[Mb,6,#[qu,ae,hr.mono (),T.mW,#v[pv 1]],#[Wl,QD #[qN,(2),yL.nd] (QD #[qN,2,(3),1,yL.nd,rfl,VU rfl,_] (QD #[qN,2,(4),1,yL.nd,rfl,VU rfl,_] xx))],_,_,_],#[qH,(5),yL.nd,#[X8,T.M_Project,Wg,T.m_Project,T.mh,qE,#v[#[qU,qX,T.QP,vw,#v[pv 2]]]]],#[qH,(6),yL.nd,#[qz,#v[qm,#[qz,#v[#[qz,#v[#[qz,#v[qm,qm]],qm]]]],#[qz,#v[qm,qm]]]]],#[qH,(7),yL.nd,#[qu,kz,hr.mono (),T.mq,#v[pv 3]]],#[qH,(8),yL.nd,#[qF,7,Yn,#[Y4,#v[qm,qm,#[qz,#v[qm,qm]],#[qz,qd]]],#[qu,Qy,hr.mono (),T.io,#v[pv 1,qk]],(λ_ _=>rfl)]],#[qH,2,(9),4,yL.nd,rfl,VU rfl,#[qu,aa,hr.mono (),T.mE,#v[pv 5,pv 3,pv 8]],_,_],#[yJ,#[jn,#v[#[qF,7,Yn,#[Y4,#v[qk,qk]],#[qU,sA,T.z_int,tZ,#v[#[Qg,oE,#[qD,qR,T.Yg,uQ,#v[pv 4]],qk]]],(λ_ _=>rfl)]]],#[qN,(10),yL.nd],%[#[qH,(11),yL.nd,#[qu,Jt,hr.mono (),T.iV,#v[#[QC,Bp,pv 7,#[Y4,#v[pv 6]]],pv 1]]],@qM _ _ _ _ _ _ _ _ #[JU,#[qr,xp,#[qu,yD,hr.mono (),T.iH,#v[pv 5,#[qU,qX,T.QP,vw,#v[pv 11]]]],qQ],#[Y3,#[qr,#[Ka,1,hr.units],#[qu,16,kS,hr.mono (),_,T.iT.m,T.iT.F.kp,T.iT.b,.nil,Am,#v[pv 5,#[qU,qX,T.QP,vw,#v[pv 11]],qm],_,_,_],#[qz,#v[qm,qm]]]]].pt %[|#[qq,YM]] qv,#[yJ,#[w8,pv 3],#[qN,(12),yL.nd],%[|@qM _ _ _ _ _ _ _ _ #[JU,#[qr,#[Ka,1,hr.units],#[qu,16,kS,hr.mono (),_,T.iT.m,T.iT.F.kp,T.iT.b,.nil,Am,#v[pv 5,#[qU,qX,T.QP,vw,#v[pv 11]],pv 12],_,_,_],#[qz,#v[qm,#[Qc,pv 3,pv 12]]]],#[Y3,#[qr,DU,#[qF,qA,#[qu,ad,hr.mono (),T.mS,#v[pv 5,pv 12]]],qm]]].pt %[|#[qq,YM]] qv]],#[qH,2,(13),4,yL.nd,rfl,VU rfl,#[qu,Qy,hr.mono (),T.io,#v[pv 1,#[qD,qR,T.Yg,uQ,#v[pv 4]]]],_,_],#[X3,["step","ring","at"],[4,13],(14),yL.nd,Lk (qj Ck) ["script","pot","pairs","nexts","ring","project","beside","waiting","tree","saying","turn","row","name","at","fewer","other","paper","waits"],#[xm,pv 11],(λ_ _ _ _ _ _=>#[qN,(0),(show Vi (["step","ring","at"]:oq Str) by decide+kernel)]),(λ_ _ _ _ _ _=>#[Ak,3,#[qr,DU,#[qF,#[Z4,1,K,rfl],pv 0],#[qF,7,#[Zx,1,K,rfl],pv 1,pv 2,(λ_ _=>rfl)]]]),(λ_ _ _ _ _ _=>(pv 0))],#[X3,["step","saying","at","ring"],[9,13,4],(15),yL.nd,Lk (qj Ck) ["script","pot","pairs","nexts","ring","project","beside","waiting","tree","saying","turn","row","name","at","fewer","other","paper","waits"],#[xm,pv 11],(λ_ _ _ _ _ _=>#[qN,(0),(show Vi (["step","saying","at","ring"]:oq Str) by decide+kernel)]),(λ_ _ _ _ _ _=> @yS _),(λ_ _ _ _ _ _=>#[qF,7,#[Zx,1,K,rfl],#[Y4,#v[pv 0,#[qF,7,#[Zx,1,K,rfl],pv 1,pv 2,(λ_ _=>rfl)]]],#[qU,sA,T.z_int,tZ,#v[#[Qg,QW,#[qF,#[Z4,1,K,rfl],pv 0],#[qF,7,#[Zx,1,K,rfl],pv 3,pv 2,(λ_ _=>rfl)]]]],(λ_ _=>rfl)])],#[yJ,#[xm,#[Y4,#v[pv 15,#[qu,Jt,hr.mono (),T.iV,#v[pv 9,pv 1]],#[QC,Bp,pv 14,#[Xz,sX,pv 9,#[zE,pv 13],#[zE,#[QC,Yy,pv 13,qk]]]]]]],#[qN,(16),yL.nd],%[|@qM _ _ _ _ _ _ _ _ #[JU,#[qr,yl,#[qu,yD,hr.mono (),T.iH,#v[pv 5,#[qU,qX,T.QP,vw,#v[pv 16]]]],qQ],#[Y3,#[Qm,#[qZ,#[qu,jQ,hr.mono (),T.iS,#v[pv 5,pv 16,pv 3]]]]]].pt %[|#[qq,YM]] qv]],#[qH,(17),yL.nd,#[Qg,8,Q9,#[qF,7,Yn,pv 4,pv 13,(λ_ _=>rfl)],#[wB,["step","nexts"],(1),[3],Lk (qj Ck) ["script","pot","pairs","nexts","ring","project","beside","waiting","tree","saying","turn","row","name","at","fewer","other","paper","waits"],#[xm,pv 14],(λ_ _ _ _ _ _=>#[qN,(0),(show Vi (["step","nexts"]:oq Str) by decide+kernel)]),(λ_ _ _ _ _ _=>#[Ak,3,#[wI,#[Wk,Qs hr,#[qF,#[Z4,1,K,rfl],pv 0],pv 1]]]),(λ_ _ _ _ _ _=>#[Qc,pv 1,#[qF,#[Z4,1,K,rfl],pv 0]])],#[w]]]|@qM _ _ _ _ _ _ _ _ #[JU,#[qr,QW,#[Qg,yl,#[qu,yD,hr.mono (),T.iH,#v[pv 5,#[qU,qX,T.QP,vw,#v[pv 14]]]],qQ],pv 17],#[Y3,#[Qm,#[qZ,#[qu,jQ,hr.mono (),T.iS,#v[pv 5,pv 14,pv 3]]]]]].pt %[|#[qq,YM]] qv]]|#[qq,YM]]
 exists 8,N1,q1
 exists 0,q0,bX,1,c8,bX.sum,(50),1,(),(),λp H1 hp s1 P1=>q1 _ _ ?_
 exists 8,N2,q2
 exists 0,p,1,P1,λt L d N us ps nx ns H2 K2 P2 ht hL bY hd hN hR=>?_
 exists t,0,SqT.of ht,1,_,0,_,0,_,0,1,q2 _ _ ?_;clear s1 P1 K2 q1 q2 ht;exists 8,N3,q3
 exists 0,L,us,1,.inl [SqL.of hL:λtp bZ=>?_];have mp:=qf bZ (.tup us);intro x dx a9 b9 c9;have mx:ig (upd H2 tp (.tup us)) (upd (upd (upd H2 tp (.tup us)) dx (.own x)) x (.ins a.qG dx [])):=λb ob e=>by
  rwa[qh (qi e a9),qh (qi e b9)]
 have bb:=mp.trans mx
 exists x,dx,tp,ps,us,1,qg,mx _ _ qg,bY.mono bb.tk,hR.pr,hR.len,λqs H3 keep hP hT bc=>[1:q3 _ _ ?_];have aL:ig H2 H3:=λb ob e=>keep b ob (bb _ _ e) (qi (mp _ _ e) a9);have hG:RG qs nx:=hR.rg hT bc;have P3:=P2.same aL;erw[hd,o,ca];have ak:=aL _ _ ca;have cb:=aL _ _ hN;have cc:=hR.n0;have dE:=hR.n1;have a2:=hR.pre;have dF:=hR.nl;clear keep mp mx bb bZ a9 b9 c9 ca hN aL P2 q3 hL bY;exists 8,N4,q4
 exists sml rfl,λt1 h1=>?_;have n1:=qf h1 (.tup [V.str "thing",V.str "leaf"]);have i1:Is (upd H3 t1 (.tup [V.str "thing",V.str "leaf"])) (.tup [.str "thing",.str "leaf"]) (.ref t1):=Is.new (ds:= [.str "thing",.str "leaf"]) ⟨_,0,Qb (),_,0,Qb (),1⟩ h1
 generalize upd H3 t1 (.tup [V.str "thing",V.str "leaf"])=Ha at n1 i1⊢
 exists sml rfl,λt2 h2=>?_;have n2:=qf h2 (.tup [V.ref t1,V.str "x"]);have i2:Is (upd Ha t2 (.tup [V.ref t1,V.str "x"])) (.tup [.tup [.str "thing",.str "leaf"],.str "x"]) (.ref t2):=Is.new (ds:= [.tup [.str "thing",.str "leaf"],.str "x"]) ⟨_,0,i1,_,0,Qb (),1⟩ h2
 have af:=n1.trans n2;clear n1 i1;generalize upd Ha t2 (.tup [V.ref t1,V.str "x"])=Hb at n2 i2 af⊢
 exists sml rfl,λt3 h3=>?_;have n3:=qf h3 (.tup [V.ref t2]);have i3:Is (upd Hb t3 (.tup [V.ref t2])) (.tup asB) (.ref t3):=Is.new (ds:=asB) ⟨_,0,i2,1⟩ h3;have U:=af.trans n3;clear n2 i2 af;generalize upd Hb t3 (.tup [V.ref t2])=Hc at n3 i3 U⊢
 exists sml rfl,λt4 h4=>?_;have n4:=qf h4 (.tup [V.str "said",V.str "x"]);have i4:Is (upd Hc t4 (.tup [V.str "said",V.str "x"])) enX (.ref t4):=Is.new (ds:= [.str "said",.str "x"]) ⟨_,0,Qb (),_,0,Qb (),1⟩ h4
 have bd:=i3.mono n4.tk;have bf:=U.trans n4;clear n3 i3 U;generalize upd Hc t4 (.tup [V.str "said",V.str "x"])=Hd at n4 i4 bd bf⊢
 exists sml rfl,λt5 h5=>q4 _ _ ?_;have n5:=qf h5 (.tup [V.str "beside",V.ref t3,V.ref t4]);have i5:Is (upd Hd t5 (.tup [V.str "beside",V.ref t3,V.ref t4])) (stD stB) (.ref t5):=Is.new (ds:= [.str "beside",.tup asB,enX]) ⟨_,0,Qb (),_,0,bd,_,0,i4,1⟩ h5
 have ap:=bf.trans n5;clear n4 i4 bd bf;generalize upd Hd t5 (.tup [V.str "beside",V.ref t3,V.ref t4])=H4 at n5 i5 ap⊢;have P4:=P3.same ap;have bg:=ap _ _ ak;have cd:=ap _ _ cb;have ce:=hP.same ap;clear n5 ap P3 ak cb hP h1 h2 h3 h4 h5 q4;generalize V.ref t5=bv at i5;have ag:∀y∈nx,↑y.1<=100/\↑y.2<=100:=λy hy=>by
  have h1:=(yK _ (Yx (hG.nms y hy))).2.1;have h2:=(yK _ (Yx (hG.nm2 hy))).2.1;exact[():()]
 exists 8,N5,q5
 exists 0,d,nx,1,[o:bg],hG.nd,(),ag,λLW uw H5 cf s5 eW iW=>q5 _ _ ?_
 have aM:LW≠p:=(P4.free cf).symm;have P5:=P4.same s5;have bh:=s5 _ _ bg;have bo:=s5 _ _ cd;have cg:=ce.same s5;have ch:=i5.mono s5.tk;clear P4 bg cd ce i5 s5 cf q5;exists 8,N6,q6
 exists sml rfl,λt1 h1=>?_;have n1:=qf h1 (.tup [V.str "text a x",V.str "say a"]);have i1:Is (upd H5 t1 (.tup [V.str "text a x",V.str "say a"])) (.tup [.str "text a x",.str "say a"]) (.ref t1):=Is.new (ds:= [.str "text a x",.str "say a"]) ⟨_,0,Qb (),_,0,Qb (),1⟩ h1
 generalize upd H5 t1 (.tup [V.str "text a x",V.str "say a"])=Ha at n1 i1⊢
 exists uY _,λt2 h2=>?_;have n2:=qf h2 (.tup ([]:oq V));have i2:Is (upd Ha t2 (.tup [])) (.tup []) (.ref t2):=Is.new (ds:= []) rfl h2;have bp:=i1.mono n2.tk;have af:=n1.trans n2;generalize upd Ha t2 (.tup [])=Hb at n2 i2 bp af⊢
 exists sml rfl,λl hl=>?_;have n3:=qf hl (.lst [V.str "x",V.str "",V.ref t1,V.ref t2]);have e3:upd Hb l (.lst [V.str "x",V.str "",V.ref t1,V.ref t2]) l=u_ (.lst [V.str "x",V.str "",V.ref t1,V.ref t2]):=qg;have i3:L2.IsL (upd Hb l (.lst [V.str "x",V.str "",V.ref t1,V.ref t2])) TR4 [V.str "x",V.str "",V.ref t1,V.ref t2]:=⟨_,0,Qb (),_,0,Qb (),_,0,bp.mono n3.tk,_,0,i2.mono n3.tk,1⟩
 have U:=af.trans n3
 exists 0;show Dj _ (upd Hb l (.lst [V.str "x",V.str "",V.ref t1,V.ref t2])) _ _;generalize upd Hb l (.lst [V.str "x",V.str "",V.ref t1,V.ref t2])=Hc at n3 e3 i3 U⊢;have Pc:=P5.same U;have ci:l≠p:=((P5.same af).free hl).symm
 exists p,(4),1,Pc,(),(),λc H6 c0 c1 P6 K6=>?_
 obtain⟨j,rfl,hj⟩:∃j:Nat,c=(j:Int)/\j<4:=[c.toNat:():()]
 have ay:=Pc.tk P6 K6;obtain⟨t,bq⟩:∃t,TR4[j]? =u_ t:=⟨_,uc (by show j<4;exact hj)⟩
 erw[(i3.mono ay).get bq,tv,cj,ck];have bt:=Si t (uN bq)
 exists l,_,_,tv,1,1,SqL.of (K6 _ _ e3 ci),qC cj,q6 _ _ ?_;erw[id Pc,x0,aN,_];have bu:=K6 _ _ (U _ _ bh) (λz=>by have:=U _ _ bh;rw[z,aN] at this;cases this)
 have cm:=K6 _ _ (U _ _ bo) (Pc.ne_strs (U _ _ bo));have cn:=K6 _ _ (U _ _ eW) aM;have cp:=iW.mono (U.tk.trans ay);have cq:=ch.mono (U.tk.trans ay);have bw:Q7 a.qG H6 x qs:=by
  erw[cg.same U,dx,dd,o,vs,e1,e2,e3,e4];exact⟨dx,dd,o,vs,K6 _ _ e1 (λz=>by rw[z,aN] at e1;cases e1),K6 _ _ e2 (λz=>by rw[z,aN] at e2;cases e2),e3,e4.mono ay⟩
 clear n1 n2 af n3 U e3 i1 i2 bp i3 h1 h2 hl aN K6 P5 Pc bh bo cg ch eW iW q6 ay ci bq cj;exists 8,N7,q7
 exists 0,0,0,x,d,tv,t,qs,nx,1,bw,hT,hG,[o:bu],ck,(),λLY uy H7 cr s7 eY iY=>q7 _ _ ?_
 have bx:LY≠p:=(P6.free cr).symm;have S7:LSt a.qG H7 p d N x LW LY bv uw uy qs nx ns t:=⟨P6.same s7,[o:s7 _ _ bu],s7 _ _ cm,bw.same s7,cq.mono s7.tk,s7 _ _ cn,cp.mono s7.tk,eY,iY⟩;clear P6 bu cm bw cq cn cp ck s7 cr eY iY q7;exists 8,N8,q8
 exists sml rfl,λl hl=>?_;have n1:=qf hl (.lst [V.int 6,V.int 1]);have e1:upd H7 l (.lst [V.int 6,V.int 1]) l=u_ (.lst [V.int 6,V.int 1]):=qg;have S8:=S7.same n1;generalize upd H7 l (.lst [V.int 6,V.int 1])=H8 at n1 e1 S8⊢;obtain⟨m,hm,dG⟩:∃m:Nat,atI [V.int 6,V.int 1] (if decide (↑(ns.map V.str)>(6:Int)) then 1 else 0)=u_ (.int (m:Int))/\m<=6:=by
  by_cases c:(↑(ns.map V.str):Int)>6
  ·exact⟨(1),by rw[uh c];rfl,()⟩
  ·exact⟨(6),by rw[ug c];rfl,()⟩
 exists 0,N,0,.inl (SqL.of S8.n),_,0,1,.inr ⟨0,l,_,_,0,1,SqL.of e1,hm,m,1,(),(),?_⟩
 clear S7 n1 hl e1 hm
 let J_:Nat->L2.St->Hp->Prop:=λi σ H'=>∃(aA bA aB aO aP aQ aq aC:ot V),σ= [u_ (.ref q0),u_ (.ref p),u_ (.ref L),u_ (.ref d),u_ (.ref N),u_ (.ref x),u_ bv,u_ (.ref LW),u_ tv,u_ (.ref LY),aA,bA,aB,aO,aP,aQ,aq,aC]/\LSt a.qG H' p d N x LW LY bv uw uy qs nx ns t
 refine Xt (n:=m) J_ ⟨_,_,_,_,_,_,_,0,S8⟩ ?_ ?_
 ·rintro i σ HA hi ⟨aA,bA,aB,aO,aP,aQ,aq,aC,rfl,SA⟩;clear S8 hi;show ni _ _ _ _ HA;exists 8,B1,b1
  exists 0,0,sml rfl,λl1 bB=>?_;have n1:=qf bB (.lst [bv]);have e1:upd HA l1 (.lst [bv]) l1=u_ (.lst [bv]):=qg;have S1:=SA.same n1;show Ab1 _ _ (upd HA l1 (.lst [bv])) _;generalize upd HA l1 (.lst [bv])=H1 at n1 e1 S1⊢;have cs:↑uw=↑nx:=by rw[↑S1.wi,u9,u9]
  exists 5
  refine⟨LW,l1,_,0,1,S1.w,e1,by rw[cs];show ↑nx+1<=V5;omega,λl2 bC=>[0:?_]⟩
  have n2:=qf bC (.lst (uw++ [bv]));have e2:upd H1 l2 (.lst (uw++ [bv])) l2=u_ (.lst (uw++ [bv])):=qg;have S2:=S1.same n2;have i2:L2.IsL (upd H1 l2 (.lst (uw++ [bv]))) ((nx.map stW++ [stB]).map stD) (uw++ [bv]):=by rw[um];exact S2.wi.append (L2.IsL.one S2.b)
  show Dv _ (upd H1 l2 (.lst (uw++ [bv]))) _ _;generalize upd H1 l2 (.lst (uw++ [bv]))=H2 at n2 e2 S2 i2⊢
  exists 5
  refine⟨l2,p,_,0,e2,i2,S2.p,by rw[u9,uJ,u9];show ↑nx+1<=100;omega,λr ws es HB cu KB PB er bD cv=>b1 _ _ ?_⟩
  erw[Bm cv _ rfl,R,O,rfl];have cw:r≠p:=(S2.p.free cu).symm;have SB:=S2.kp PB KB aM bx;clear S1 S2 SA n1 n2 e1 e2 i2 bB bC KB PB cu cv cs b1;have O:CL nx R:=O;obtain⟨pz,cx⟩:∃pz,pz∈nx:=by
   have h0:=a2 0 cc;rw[uc cc,uC] at h0;cases hz:nx[0]? with
   |none=>rw[hz] at h0;cases h0
   |some y=>exact[y:uN hz]
  have Z:↑nx<=100:=by omega
  have aR:=Aas hT hG cx Z O;clear cx;exists 8,B2,b2
  exists 0,0,r,ws,1,.inl [SqL.of er:λta au=>?_];have ma:=qf au (.tup ws)
  exists x,ta,ws,qs,R,v_,1,qg,bD.mono ma.tk,SB.x.same ma,hT,aR,λv1 HC sC aD _=>[1:0:?_];cases aD rfl;refine iR (by simp) ?_
  have aS:=ma.trans sC;have SC:=SB.same aS;have bE:=aS _ _ er;have aE:=bD.mono aS.tk;clear ma sC aS SB er bD au
  exists 0,0,r,ws,1,.inl [SqL.of bE:λtb aT=>?_];have mb:=qf aT (.tup ws)
  exists x,tb,ws,"beside",qs,R,v_,1,qg,aE.mono mb.tk,SC.x.same mb,hT,aR,(),λ_ v2 HD sD i2=>?_,λh=>A8 h ()
  have aU:shD qs R "beside"= .tup [.str "value",.str "x"]:=(NG (s:=stB) (nW hG O) ((Z5 O _).mpr (.inr rfl))).trans ans_X';rw[A6 rfl,aU] at i2
  exists sml rfl,λtc aw=>?_;have mc:=qf aw (.tup [V.str "value",V.str "x"]);have ic:=Is.new (ds:= [.str "value",.str "x"]) ⟨_,0,Qb (),_,0,Qb (),1⟩ aw
  exists [.str "value",.str "x"],[.str "value",.str "x"],i2.mono mc.tk,ic,1,1,by simp[dpL,dp],0
  rw[(eqNL_iff (show nL [.str "value",.str "x"]=v_ from rfl)).mpr rfl]
  refine iR rfl (b2 _ _ ?_);have aF:=(mb.trans sD).trans mc;generalize upd HD tc (.tup [V.str "value",V.str "x"])=HE at aF⊢;have SE:=SC.same aF;have bF:=aF _ _ bE;have aG:=aE.mono aF.tk;clear mb sD mc aF SC bE aE aT aw i2 ic b2 aU;exists 8,B3,b3;erw[id SE.d,o3,ak]
  exists 0,d,o3,0,ak
  let J3_:Nat->L2.St->Hp->Prop:=λi σ H'=>∃(aA aB:ot V),σ= [u_ (.ref q0),u_ (.ref p),u_ (.ref L),u_ (.ref d),u_ (.ref N),u_ (.ref x),u_ bv,u_ (.ref LW),u_ tv,u_ (.ref LY),aA,u_ (.ref r),aB,aO,aP,aQ,aq,aC]/\ig HE H'
  refine kg (kvs:=nxV nx) J3_ [_:0:ig.refl _] (λi σ H' _ h=>by erw[h,_,_,_,s'];exact s' _ _ ak) ?_ ?_
  ·rintro i3 y0 σ H3 da ⟨cy,cz,rfl,s3⟩;erw[OS da,y,hy,rfl];have ax:=uN hy;have cA:=(yK _ (Yx (hG.nms y ax))).1;have bC:=(ag y ax).2;have bB:=(ag y ax).1
   exists 0,0,r,ws,1,.inl [SqL.of (s3 _ _ bF):λtb aT=>?_];have mb:=qf aT (.tup ws);have bG:=s3.trans mb
   exists 0,x,tb,ws,y.1,qs,R,v_,1,qg,aG.mono bG.tk,SE.x.same bG,hT,aR,(),λ_ v2 H4 s4 i4=>?_,λh=>A8 (cA.symm.trans h) ()
   have aU:shD qs R y.1=lP y.2:=(NG (s:=stW y) (nW hG O) ((Z5 O _).mpr (.inl [y:ax:1]))).trans (Iv y.2);rw[A6 rfl,aU] at i4;have cB:=bG.trans s4
   exists 0,0,d,0,.inl ⟨_,V3 y.1,.inr [o3:cB _ _ ak],1,(wg hG.nd ax).symm⟩,sml rfl,λtc aw=>?_;have mc:=qf aw (.tup [V.str "stuck",V.str y.2]);have ic:=Is.new (ds:= [.str "stuck",.str y.2]) ⟨_,0,Qb (),_,0,Qb (),1⟩ aw
   exists [.str "stuck",.str y.2],[.str "stuck",.str y.2],i4.mono mc.tk,ic,1,1,by simp[dpL,dp],0
   rw[(eqNL_iff (show nL [.str "stuck",.str y.2]=v_ from rfl)).mpr rfl]
   refine iR rfl ?_;have bH:=cB.trans mc;generalize upd H4 tc (.tup [V.str "stuck",V.str y.2])=H5 at bH⊢
   exists 0,0,x,y.1,qs,1,cA,SE.x.same bH,hT,λv6 H6 s6 i6 _=>?_;erw[hG.run ax,_,_,_,_,cC];rw[cC] at i6;erw[i6,t6,w6,rfl,de,x7,r7,rfl,[rfl,_],_]
   exists t6,_,_,0,1,SqT.of de,qC (j:=0) rfl,1,0;exact iR (by simp) [_:0:bH.trans s6]
  rintro σ HF ⟨cy,cz,rfl,sF⟩;refine b3 _ _ ?_;have SF:=SE.same sF;have cD:=sF _ _ bF;have a3:=aG.mono sF.tk;clear SE bF aG sF ak b3;exists 8,B4,b4
  exists 5
  refine⟨0,0,N,0,.inl (SqL.of SF.n),p,0,SF.p,by rw[u9];omega,by rw[u9];omega,λc HG c0 c1 PG KG=>b4 _ _ ?_⟩
  rw[u9] at c1;obtain⟨j,rfl,hj⟩:∃j:Nat,c=(j:Int)/\j<↑ns:=[c.toNat:():()]
  have SG:=SF.kp PG KG aM bx;have aV:=KG _ _ cD cw;have aH:=a3.mono (SF.p.tk PG KG);clear SF cD a3 KG PG b4 c0 c1;obtain⟨p0,bI,bJ⟩:∃p0,nx[j]? =u_ p0/\(ns.map V.str)[j]? =u_ (V.str p0.1):=by
   have h0:=a2 j hj;rw[uC] at h0;cases hz:nx[j]? with
   |none=>rw[hz,uc hj] at h0;cases h0
   |some y=>
    rw[hz] at h0
    exists y,1;rw[uC,<-h0]
    rfl
  have ao:=uN bI;have dH:=(ag p0 ao).1;obtain⟨kd,dh,cE⟩:∃kd,IA (qB qs p0.1)=kd/\(kd="thing"∨kd="rule"):=[0:O4 _];have cF:((Df qs t nx).map stD)[j]? =u_ (stD (stS kd t p0)):=by
   unfold Df;rw[uC,uC,bI,<-dh]
   rfl
  have bK:↑(R.map stD)<=sizeLine:=by rw[u9,W9 O];omega
  exists 8,B5,b5
  exists 0,r,1,[_:SqL.of aV],λA0 bL=>?_;refine Av (tl:= [u_ (.ref N),u_ (.int (j:Int))]) (λd=>decide (Ex d≠p0.1)) id aV aH bK bL (λdd y H' Rr al s' iy hR=>?_) (λdd y H' Rr _ _ s' iy hR=>[0:hR y H' (ig.refl _) iy]) λHH uf sH eF iF=>?_
  ·erw[Ae.mp al,ss,_,rfl];erw[iy,ts,bM,rfl,am,w1,r1,rfl,[rfl,_],_]
   exists 0,ts,_,_,0,1,SqT.of am,qC (j:=0) rfl,0,0,N,_,_,0,1,SqL.of (s' _ _ SG.n),qC bJ,1,0;have e:(!decide (V.str ss.1=V.str p0.1))=decide (Ex (stD ss)≠p0.1):=by
    rw[oV];by_cases c:ss.1=p0.1<;>simp[c]
   rwa[<-e] at hR
  rw[GM,AcZ] at iF;refine b5 _ _ ?_;have SH:=SG.same sH;have bN:=sH _ _ aV;have a4:=aH.mono sH.tk;have di:A0≠p:=(SG.p.free bL).symm;clear SG aV aH sH bL b5;exists 8,B6,b6
  exists 0,r,1,[_:SqL.of bN],λA1 bO=>?_;refine Av (tl:= [u_ (.ref LY),u_ (.int (j:Int)),u_ (.ref N)]) (λ_=>v_) (λd=>if Ex d=p0.1 then stD (stS kd t p0) else d) bN a4 bK bO (λ_ _ _ _ _ _ _ h=>h) (λdd y H' Rr al _ s' iy hR=>?_) λHI uo sI eO iO=>?_
  ·erw[Ae.mp al,ss,_,rfl];erw[id iy,ts,bM,rfl,am,w1,r1,rfl,[rfl,dI],dj];erw[(SH.yi.mono s'.tk).get cF,yv,aW,aX]
   exists 0,0,0,LY,_,_,0,1,SqL.of (s' _ _ SH.y),qC aW,sml rfl,λl hl=>?_;have nl:=qf hl (.lst [V.ref ts,yv]);have el:upd H' l (.lst [V.ref ts,yv]) l=u_ (.lst [V.ref ts,yv]):=qg;have cG:=nl _ _ (s' _ _ SH.n);have a5:=nl _ _ am;have cH:=iy.mono nl.tk;have a6:=aX.mono nl.tk;generalize upd H' l (.lst [V.ref ts,yv])=H2 at nl el cG a5 cH a6⊢
   exists 0,ts,_,_,0,1,SqT.of a5,qC (j:=0) rfl,0,0,N,_,_,0,1,SqL.of cG,qC bJ,1;by_cases c:ss.1=p0.1
   ·refine .inr ⟨0,l,_,_,yv,1,1,SqL.of el,by rw[uh (A9 V.str c)];rfl,hR yv H2 nl ?_⟩
    rwa[oV,A6 c]
   ·refine .inr ⟨0,l,_,_,V.ref ts,1,1,SqL.of el,by rw[ug (λz=>c (V.str.inj z))];rfl,hR _ H2 nl ?_⟩
    rwa[oV,A4 c]
  rw[List.filter_eq_self.mpr (λ_ _=>rfl),AcD] at iO;refine b6 _ _ ?_;have SI:=SH.same sI;have cI:=sI _ _ eF;have cJ:=iF.mono sI.tk;have dk:A1≠p:=(SH.p.free bO).symm;have cK:=Aat hT hG ao cE bt Z O;have cM:=AcB hT hG ao cE bt Z O;clear SH bN a4 sI eF iF bO b6 bK cw aR;exists 8,B7,b7;have cN:0<↑nx:=by have:=(Ag.mp bI).1;omega
  exists 5
  refine⟨0,0,0,LY,p,uy,0,SI.y,SI.yi,SI.p,by unfold Df;rw[u9,u9];omega,λr2 w2 dJ HJ dl KJ PJ cO a7 a8=>?_⟩
  erw[Bm a8 _ rfl,R2,cP,rfl];have bP:=SI.p.tk PJ KJ;have SJ:=SI.kp PJ KJ aM bx;have bQ:=KJ _ _ cI di;have aY:=cJ.mono bP;have cQ:=KJ _ _ eO dk;have cS:=iO.mono bP;have cT:=Aar hG cN bt Z cP;clear SI cI cJ eO iO bP KJ PJ dl a8
  exists 0,0,0,0,0,_,0,1,0,LY,0,SqL.of SJ.y,λq1 cU=>?_;erw[SJ.yi.get cF,yv,aW,aX];rw[Pu aW];have m1:=qf cU (.lst [yv]);have e1:upd HJ q1 (.lst [yv]) q1=u_ (.lst [yv]):=qg;show Ab1 _ _ (upd HJ q1 (.lst [yv])) _;generalize upd HJ q1 (.lst [yv])=HK at m1 e1⊢;have dL:↑uf<=↑nx+1:=by rw[↑aY,u9];exact ka O _
  exists 5
  refine⟨A0,q1,_,0,1,m1 _ _ bQ,e1,by show ↑uf+1<=V5;omega,λq2 cV=>?_⟩
  have m2:=qf cV (.lst (uf++ [yv]));have e2:upd HK q2 (.lst (uf++ [yv])) q2=u_ (.lst (uf++ [yv])):=qg;have bR:=m1.trans m2;generalize upd HK q2 (.lst (uf++ [yv]))=HL at m2 e2 bR⊢
  exists sml rfl,λl3 cW=>?_;have m3:=qf cW (.lst [V.ref A1,V.ref r2,V.ref q2]);have e3:upd HL l3 (.lst [V.ref A1,V.ref r2,V.ref q2]) l3=u_ (.lst [V.ref A1,V.ref r2,V.ref q2]):=qg;have ac:=bR.trans m3;have aI:∀v∈ [V.ref A1,V.ref r2,V.ref q2],LM qs (upd HL l3 (.lst [V.ref A1,V.ref r2,V.ref q2])) v:=by
   intro v hv;simp![uH,uI,uS] at hv;rcases hv with rfl|rfl|rfl
   ·exact⟨A1,uo,0,ac _ _ cQ,cS.mono ac.tk,cK⟩
   ·exact⟨r2,w2,R2,1,ac _ _ cO,a7.mono ac.tk,cT⟩
   ·exists q2,_,0,m3 _ _ e2,?_,cM;rw[um];exact(aY.mono ac.tk).append (L2.IsL.one (aX.mono ac.tk))
  exists l3,1,[_:SqL.of e3];have SL:=SJ.same ac;have bS:=ac _ _ bQ;have bT:=aY.mono ac.tk;generalize upd HL l3 (.lst [V.ref A1,V.ref r2,V.ref q2])=HM at e3 aI SL bS bT⊢;clear m1 m2 m3 bR ac e1 e2 SJ bQ aY cQ cS cO a7 cK cM cT cP cU cV cW aX aW
  let J7_:Nat->L2.St->Hp->Prop:=λi σ H'=>∃(aq:ot V),σ= [u_ (.ref q0),u_ (.ref p),u_ (.ref L),u_ (.ref d),u_ (.ref N),u_ (.ref x),u_ bv,u_ (.ref LW),u_ tv,u_ (.ref LY),cy,u_ (.ref r),cz,u_ (.int (j:Int)),u_ (.ref A0),u_ (.ref A1),aq,aC]/\ig HM H'
  refine kj (K:=K) (a:=l3) (xs:= [V.ref A1,V.ref r2,V.ref q2]) J7_ [0:ig.refl _] (λi σ H' _ h=>by erw[h,_,_,s'];exact SqL.of (s' _ _ e3)) ?_ ?_
  ·rintro i7 y7 σ H7 dm ⟨dq,rfl,s7⟩;erw[(aI y7 (uN dm)).same s7,l7,aZ,cX,rfl,cY,cZ,c2];have S7:=SL.same s7
   exists 0,0,l7,aZ,1,.inl [SqL.of cY:λta au=>?_];have ma:=qf au (.tup aZ)
   exists x,ta,aZ,qs,cX,V1,1,qg,cZ.mono ma.tk,S7.x.same ma,hT,c2,λv1 H8 s8 _ aD=>[1:0:?_];refine iR (ug (aD rfl)) ?_;have aJ:=ma.trans s8
   exists 0,0,0,x,l7,d,aZ,qs,cX,V1,nx,1,aJ _ _ cY,cZ.mono aJ.tk,S7.x.same aJ,hT,c2,(S7.same aJ).d,λy hy=>(yK _ (Yx (hG.nms y hy))).1,(λz=>by cases z),λH9 s9=>[0:?_]
   exact iU [0:(s7.trans aJ).trans s9]
  rintro σ HN ⟨dq,rfl,sN⟩;refine b7 _ _ ?_;have SN:=SL.same sN;have a1:=sN _ _ bS;have bU:=bT.mono sN.tk;clear SL bS bT sN aI e3 b7;exists 8,B8,b8;erw[id SN.d,o8,bV];have dv:↑((mT p0.1 R).map stD)<=sizeLine:=by rw[u9];have:=ka O p0.1;omega
  have dw:∀ss∈mT p0.1 R,ss.1∈nx.map (·.1)->∃y∈nx,y.1=ss.1:=λss _ h=>by
   erw[Ae.mp h,y,hy,e];exact[y:hy:e]
  exists 0,0,N,_,_,0,1,SqL.of SN.n,qC bJ,0,A0,1,[_:SqL.of a1],λA2 c3=>?_;refine Av (tl:= [u_ (.ref d)]) (λdd=>decide (Ex dd∈nx.map (·.1))) (λdd=>D.str (AaT nx (Ex dd))) a1 bU dv c3 (λdd y H' Rr al s' iy hR=>?_) (λdd y H' Rr al dy s' iy hR=>?_) λdM ys sO c4 bW=>?_
  ·erw[Ae.mp al,ss,_,rfl];erw[iy,ts,bM,rfl,am,w1,r1,rfl,[rfl,_],_]
   exists 0,ts,_,_,0,1,SqT.of am,qC (j:=0) rfl,0,d,0,.inl ⟨_,V3 ss.1,.inr [o8:s' _ _ bV],1,1⟩,0;have e:(iJ (nxV nx) (V3 ss.1)).isSome=decide (Ex (stD ss)∈nx.map (·.1)):=by
    rw[oV];by_cases c:ss.1∈nx.map (·.1)
    ·erw[Ae.mp c,y,hy,e];rw[<-e,wg hG.nd hy,uh (Ae.mpr [y:hy:1])]
     rfl
    ·rw[OR c,ug c]
     rfl
   rwa[<-e] at hR
  ·erw[Ae.mp al,ss,dz,rfl];erw[iy,ts,bM,rfl,am,w1,r1,rfl,[rfl,_],_];erw[dw ss dz (uq dy),y,hy,e]
   exists 0,0,ts,_,_,0,1,SqT.of am,qC (j:=0) rfl,d,0,.inl ⟨_,V3 ss.1,.inr [o8:s' _ _ bV],1,(by rw[<-e];exact(wg hG.nd hy).symm)⟩,hR _ H' (ig.refl _) ?_
   rw[oV,<-e,Aq hG.nd hy];exact Qb (by have:=(ag y hy).2;omega)
  rw[AdH] at bW;have dA:=Da bW;subst dA
  exists A2,0,.inl (SqL.of c4),1,Jh _,b8 _ _ ?_;have SO:=SN.same sO;have c5:=sO _ _ a1;have c6:=bU.mono sO.tk;have dB:inV (V.str p0.1) ((wtL nx (mT p0.1 R)).map V.str)=decide (p0.1∈wtL nx (mT p0.1 R)):=xT _ _;obtain⟨b,hb⟩:∃b:Bool,b= !decide (p0.1∈wtL nx (mT p0.1 R)):=⟨0⟩;have c7:PpB qs (mT p0.1 R) b:=Aau hT hG ao Z O (by
   rw[hb];constructor
   ·intro h;have h:p0.1∉wtL nx (mT p0.1 R):=by simpa using h
    exact RT λhc=>h ((LP hG O).mpr hc)
   ·intro h;have:p0.1∉wtL nx (mT p0.1 R):=λz=>(LP hG O).mp z h;simp[this])
  clear SN a1 bU sO c4 bW c3 b8 bV
  exists 0,0,A0,uf,1,.inl [SqL.of c5:λta au=>?_];have ma:=qf au (.tup uf)
  exists x,ta,uf,qs,mT p0.1 R,b,1,qg,c6.mono ma.tk,SO.x.same ma,hT,c7,λv1 HP sP aD dC=>⟨1,0,1,0,?_⟩;have aK:=ma.trans sP;have ev:decide (v1= .non)=b:=by
   cases b with
   |true=>exact uh (aD rfl)
   |false=>exact ug (dC rfl)
  refine iR ?_ ?_
  ·show decide (V.bl (decide (v1=V.non))=V.bl (inV (V.str p0.1) ((wtL nx (mT p0.1 R)).map V.str)))=V1;rw[ev,dB,hb];cases decide (p0.1∈wtL nx (mT p0.1 R))<;>rfl
  ·exists 0,0,0,x,A0,d,uf,qs,_,b,nx,1,aK _ _ c5,c6.mono aK.tk,SO.x.same aK,hT,c7,(SO.same aK).d,λy hy=>(yK _ (Yx (hG.nms y hy))).1,λ_ y hy=>Tm hG O hy _,λHQ sQ=>[0:?_];exact iU ⟨_,_,_,_,_,_,_,0,(SO.same aK).same sQ⟩
 ·rintro σ HA ⟨aA,bA,aB,aO,aP,aQ,aq,aC,rfl,SA⟩;exact q8 _ _ (k HA)
end
def Aca {K:o0}{h:og}{mg:Str->ot o7}(X:K.In h)(G:h.Ns Vo mg){U Z O aa f1 f2 f3 f4 f5 f6 f7 f8 f9 aU aV aW aX aY aZ a1 a2 a3 a4 a5 a6 a7 a8 a9 bb bc bd bf bg bh bo bp bq bt bu bw bx bA bB bC bD bE bF bG bH bI bJ bK bL bM bN bO bP bQ bR bS bT bU bV bW bX bY bZ b3 b4 b5 b6 b7 b8 b9 ca cb cc cd ce cf cg ch ci cj:o6}{t1 t2 t3 t4 t5 t6 t7 t8 t9 ck cm:Tok}
  (aK:#[K,"Machine"]=u_ (u_ (.ref U))) (aL:Cls K U) (aB:PySem.W.makesIn K U=v_/\PySem.W.keepIn K (.ref U)=v_)
  (aO:#[K,"Going"]=u_ (u_ (.ref Z))) (aP:Cls K Z) (aJ:PySem.W.makesIn K Z=v_/\PySem.W.keepIn K (.ref Z)=v_)
  (aD:#[K,"PlainOrder"]=u_ (u_ (.ref O))) (aE:Cls K O) (af:PySem.W.makesIn K O=v_/\PySem.W.keepIn K (.ref O)=v_)
  (aM:#[K,"Project"]=u_ (u_ (.ref aa))) (aN:Cls K aa) (aC:PySem.W.makesIn K aa=v_/\PySem.W.keepIn K (.ref aa)=v_)
  (h1:FZg K "is_text" Z2 f1)
  (h2:FZg K "is_tree" XQ f2)
  (h3:FZg K "is_name" Z0 f3)
  (h4:FZg K "is_pair" wG f4)
  (h5:FZg K "is_row_of_names" yX f5)
  (h6:FZg K "is_answer" xZ f6)
  (h7:FZg K "part_of" ZX f7)
  (h8:FZg K "pieces_of" xL f8)
  (h9:FZg K "row_of" Zv f9)
  (h10:FZg K "read_lines" Jw aU)
  (h11:FZg K "rule_rows" Xd aV)
  (h12:FZg K "bad_line" zw aW)
  (h13:FZg K "is_rule" wV aX)
  (cn:FZg K "text_made" xR aY)
  (cp:FZg K "self_made" xY aZ)
  (cq:FZg K "copy_made" xv a1)
  (cr:FZg K "row_made" zA a2)
  (cs:FZg K "put_made" zp a3)
  (cu:FZg K "join_made" xJ a4)
  (cv:FZg K "first_made" Je a5)
  (cw:FZg K "rest_made" xq a6)
  (cx:FZg K "size_made" xI a7)
  (cy:FZg K "cut_made" X7 a8)
  (cz:FZg K "glue_made" xt a9)
  (cA:FZg K "is_jump_taken" YW bb)
  (cB:FZg K "asked_or_fault" Ys bc)
  (aQ:FZm K U "__init__" "Machine.__init__" jf bd)
  (cC:FZm K U "now" "Machine.now" jI bf)
  (cD:FZm K U "answer" "Machine.answer" Yi bg)
  (cE:FZm K U "asked" "Machine.asked" YY bh)
  (cF:FZm K U "go_on" "Machine.go_on" YR bo)
  (cG:FZm K U "is_waiting" "Machine.is_waiting" Q5 bp)
  (cH:FZm K U "do_row" "Machine.do_row" Yt bq)
  (cI:FZm K U "hold" "Machine.hold" jh bt)
  (cJ:FZg K "asks_that_stand" yV bu)
  (cK:FZg K "does" DC bw)
  (aR:FZm K Z "__init__" "Going.__init__" Jf bx)
  (cM:FZm K Z "begin" "Going.begin" jD bA)
  (cN:FZm K Z "look" "Going.look" JJ bB)
  (cO:FZm K Z "wanted" "Going.wanted" jl bC)
  (cP:FZm K Z "take" "Going.take" Jv bD)
  (cQ:FZm K Z "full" "Going.full" Jr bE)
  (aS:FZm K O "__init__" "PlainOrder.__init__" yT bF)
  (cS:FZm K O "begin_anew" "PlainOrder.begin_anew" QN bG)
  (cT:FZm K O "go_through" "PlainOrder.go_through" QQ bH)
  (cU:FZm K O "enter" "PlainOrder.enter" yA bI)
  (cV:FZm K O "settle" "PlainOrder.settle" yc bJ)
  (cW:FZm K O "runner" "PlainOrder.runner" yf bK)
  (cX:FZm K O "leave" "PlainOrder.leave" yq bL)
  (cY:FZm K O "go_on" "PlainOrder.go_on" yy bM)
  (cZ:FZm K O "answer_yet" "PlainOrder.answer_yet" QM bN)
  (c0:FZg K "answer_at_once" Yj bO)
  (c1:FZg K "has_run" ZS bP)
  (c2:FZg K "answer_by" xl bQ)
  (c3:FZg K "check_name" Jn bR)
  (c4:FZg K "check_names" jE bS)
  (c5:FZg K "order_from" Js bT)
  (c6:FZg K "order_over" JB bU)
  (c7:FZg K "answer_of" xD bV)
  (c8:FZg K "first_wrong" jF bW)
  (c9:FZg K "first_ends" JC bX)
  (da:FZg K "wrong_word" Y9 bY)
  (de:FZg K "is_right_answer" yW bZ)
  (dh:FZg K "is_full_run" jM b3)
  (di:FZg K "is_run_of" xi b4)
  (dj:FZg K "shown" wh b5)
  (dk:FZg K "is_source" xo b6)
  (aT:FZm K aa "__init__" "Project.__init__" Yc b7)
  (dl:FZm K aa "sources" "Project.sources" jt b8)
  (dm:FZm K aa "source_of" "Project.source_of" yd b9)
  (dq:FZm K aa "looked_up" "Project.looked_up" QO ca)
  (dv:FZg K "longest_row" jH cb)
  (dw:FZg K "_law_pot" ZF cc)
  (dy:FZg K "_law_take" zf cd)
  (dz:FZg K "_law_ring" zm ce)
  (dA:FZg K "_law_drawn_row" YS cf)
  (dB:FZg K "_law_saying" Jk cg)
  (dC:FZg K "_law_waiting" Yz ch)
  (dD:FZg K "_law_none_shown" Yo ci)
  (dE:FZg K "law" Ck cj)
  (ax:#[K,U,"rows"])
  (ay:#[K,U,"rule"])
  (aF:#[K,U,"own"])
  (ao:#[K,U,"boxes"])
  (ap:#[K,U,"place"])
  (aA:#[K,U,"done"])
  (aq:#[K,U,"given"])
  (au:#[K,U,"there"])
  (aH:#[K,Z,"name"])
  (aG:#[K,Z,"order"])
  (aw:#[K,Z,"made_by"])
  (ak:#[K,Z,"rule_asks"])
  (am:#[K,Z,"rule_run"])
  (aI:#[K,Z,"end"])
  (ac:#[K,O,"given_project"])
  (ag:#[K,O,"stack"])
  (ad:#[K,O,"under_way"])
  (ae:#[K,O,"full_runs"])
  (ah:#[K,O,"found"])
  (al:#[K,aa,"by_name"])
  (g1:#[K,"MOST_SIGNS"]=u_ (u_ (.int 300 t1)))
  (g2:#[K,"MOST_PARTS"]=u_ (u_ (.int 40 t2)))
  (g3:#[K,"MOST_SIZE"]=u_ (u_ (.int 600 t3)))
  (g4:#[K,"MOST_DEPTH"]=u_ (u_ (.int 12 t4)))
  (g5:#[K,"MOST_NAME_SIGNS"]=u_ (u_ (.int 24 t5)))
  (g6:#[K,"LETTERS"]=u_ (u_ (.str "abcdefghijklmnopqrstuvwxyz" t6)))
  (g7:#[K,"NAME_SIGNS"]=u_ (u_ (.str "abcdefghijklmnopqrstuvwxyz0123456789./" t7)))
  (g8:#[K,"PERCENT"]=u_ (u_ (.int 37 t8)))
  (g9:#[K,"MOST_LINES"]=u_ (u_ (.int 40 t9)))
  (dF:#[K,"MOST_DONE"]=u_ (u_ (.int 300 ck)))
  (dG:#[K,"MOST_NAMES"]=u_ (u_ (.int 60 cm)))
  (zz:∀x∈(["ord","len","isinstance","str","tuple","all","int","range","zip","dict","enumerate","sorted","abs","list","sum"]:oq Str),PySem.W.nsIn K Vo x=u_ U_):∃a,Tx K mg a:=by
 exists 6,d1,F1,Qk,h1,["value"];exists 6,d2,F2,Qk,h2,["value"];exists 6,d3,F3,Qk,h3,["value"];exists 6,d4,F4,Qk,h4,["value"];exists 6,d5,F5,Qk,h5,["tree"];exists 6,d6,F6,Qk,h6,["ask","answer"];exists 6,d7,F7,Qk,h7,["kind","piece","count"];exists 6,d8,F8,Qk,h8,["line","form"];exists 6,d9,F9,Qk,h9,["line","count"];exists 6,dH,dI,Qk,h10,["value"];exists 6,dJ,dL,Qk,h11,["tree"];exists 6,dM,dN,Qk,h12,["tree"];exists 6,dO,dP,Qk,h13,["value"];exists 6,dQ,dR,Qk,cn,["boxes","own","parts"];exists 6,dS,dU,Qk,cp,["boxes","own","parts"];exists 6,dV,dW,Qk,cq,["boxes","own","parts"];exists 6,dX,dY,Qk,cr,["boxes","own","parts"];exists 6,dZ,d0,Qk,cs,["boxes","own","parts"];exists 6,ea,eb,Qk,cu,["boxes","own","parts"];exists 6,ec,ef,Qk,cv,["boxes","own","parts"];exists 6,eg,eh,Qk,cw,["boxes","own","parts"];exists 6,ei,ej,Qk,cx,["boxes","own","parts"];exists 6,ek,el,Qk,cy,["boxes","own","parts"];exists 6,em,eo,Qk,cz,["boxes","own","parts"];exists 6,eq,er,Qk,cA,["boxes","word","parts"];exists 6,et,eu,Qk,cB,["word","held"];obtain⟨ey,ez⟩:=yP aQ ["self","rule","own"] (by rfl');obtain⟨eA,eB⟩:=yP cC ["self"] (by rfl');obtain⟨eC,eD⟩:=yP cD ["self","tree"] (by rfl');obtain⟨eE,eF⟩:=yP cE ["self"] (by rfl');obtain⟨eG,eH⟩:=yP cF ["self"] (by rfl');obtain⟨eI,eJ⟩:=yP cG ["self"] (by rfl');obtain⟨eK,eL⟩:=yP cH ["self","row"] (by rfl');obtain⟨eM,eN⟩:=yP cI ["self","box","tree"] (by rfl');exists 6,eO,eP,Qk,cJ,["machine","asks"];exists 6,eQ,eR,Qk,cK,["rule","own","run"];obtain⟨eS,eT⟩:=yP aR ["self","name","source","order"] (by rfl');obtain⟨eU,eV⟩:=yP cM ["self","rule"] (by rfl');obtain⟨eW,eX⟩:=yP cN ["self"] (by rfl');obtain⟨eY,eZ⟩:=yP cO ["self"] (by rfl');obtain⟨e0,e1⟩:=yP cP ["self","answer"] (by rfl');obtain⟨e2,e3⟩:=yP cQ ["self"] (by rfl');obtain⟨e4,e5⟩:=yP aS ["self","project"] (by rfl');obtain⟨e6,e7⟩:=yP cS ["self","project"] (by rfl');obtain⟨e8,e9⟩:=yP cT ["self","name"] (by rfl');obtain⟨fa,fb⟩:=yP cU ["self","name"] (by rfl');obtain⟨fc,fe⟩:=yP cV ["self","going"] (by rfl');obtain⟨ff,fg⟩:=yP cW ["self","rule","own"] (by rfl');obtain⟨fi,fj⟩:=yP cX ["self","going"] (by rfl');obtain⟨fm,fo⟩:=yP cY ["self","going"] (by rfl');obtain⟨fq,ft⟩:=yP cZ ["self","name"] (by rfl');exists 6,fu,fv,Qk,c0,["source"];exists 6,fw,fx,Qk,c1,["source"];exists 6,fy,fz,Qk,c2,["end"];exists 6,fA,fB,Qk,c3,["name"];exists 6,fC,fD,Qk,c4,["names"];exists 6,fE,fF,Qk,c5,["project","name"];exists 6,fG,fH,Qk,c6,["project","names"];exists 6,fI,fJ,Qk,c7,["project","name"];exists 6,fK,fL,Qk,c8,["project","paper"];exists 6,fM,fN,Qk,c9,["paper"];exists 6,fO,fP,Qk,da,["project","ends","earlier","step"];exists 6,fQ,fR,Qk,de,["project","earlier","ask","answer"];exists 6,fS,fT,Qk,dh,["source","name","asks","end"];exists 6,fU,fV,Qk,di,["rule","own","asks","end"];exists 6,fX,fY,Qk,dj,["project","paper","name"];exists 6,fZ,f0,Qk,dk,["value"];obtain⟨gb,gc⟩:=yP aT ["self","sources"] (by rfl');obtain⟨ge,gf⟩:=yP dl ["self"] (by rfl');obtain⟨gg,gh⟩:=yP dm ["self","name"] (by rfl');obtain⟨gj,gk⟩:=yP dq ["self","ask"] (by rfl');exists 6,gl,gm,Qk,dv,["names"];exists 6,gp,gq,Qk,dw,["cell","salt"];exists 6,gr,gu,Qk,dy,["pot","many"];exists 6,gv,gw,Qk,dz,["pot"];exists 6,gx,gy,Qk,dA,["steps","pot"];exists 6,gz,gA,Qk,dB,["project","nexts","tree"];exists 6,gB,gC,Qk,dC,["nexts"];exists 6,gD,gE,Qk,dD,["project","paper","nexts"];exists 6,gF,gG,Qk,dE,["script"];have z:∀x∈(["ord","len","isinstance","str","tuple","all","int","range","zip","dict","enumerate","sorted","abs","list","sum"]:oq Str),mg x=none:=λx hx=>PySem.W.mg_none_of X G (zz x hx);simp![uH,uW,uS,forall_eq_or_imp,forall_eq] at z;erw[z,z1,z2,z3,z4,z5,z6,z7,z8,z9,gH,gI,gJ,gK,gL,gM];exact[⟨f1,d1,f2,d2,f3,d3,f4,d4,f5,d5,f6,d6,f7,d7,f8,d8,f9,d9,aU,dH,aV,dJ,aW,dM,aX,dO,aY,dQ,aZ,dS,a1,dV,a2,dX,a3,dZ,a4,ea,a5,ec,a6,eg,a7,ei,a8,ek,a9,em,bb,eq,bc,et,bd,ey,bf,eA,bg,eC,bh,eE,bo,eG,bp,eI,bq,eK,bt,eM,bu,eO,bw,eQ,bx,eS,bA,eU,bB,eW,bC,eY,bD,e0,bE,e2,bF,e4,bG,e6,bH,e8,bI,fa,bJ,fc,bK,ff,bL,fi,bM,fm,bN,fq,bO,fu,bP,fw,bQ,fy,bR,fA,bS,fC,bT,fE,bU,fG,bV,fI,bW,fK,bX,fM,bY,fO,bZ,fQ,b3,fS,b4,fU,b5,fX,b6,fZ,b7,gb,b8,ge,b9,gg,ca,gj,cb,gl,cc,gp,cd,gr,ce,gv,cf,gx,cg,gz,ch,gB,ci,gD,cj,gF,U,Z,O,aa⟩:⟨F1,F2,F3,F4,F5,F6,F7,F8,F9,dI,dL,dN,dP,dR,dU,dW,dY,d0,eb,ef,eh,ej,el,eo,er,eu,ez,eB,eD,eF,eH,eJ,eL,eN,eP,eR,eT,eV,eX,eZ,e1,e3,e5,e7,e9,fb,fe,fg,fj,fo,ft,fv,fx,fz,fB,fD,fF,fH,fJ,fL,fN,fP,fR,fT,fV,fY,f0,gc,gf,gh,gk,gm,gq,gu,gw,gy,gA,gC,gE,gG,aL,⟨aB.1,aQ.1,aQ.2.1,aB.2⟩,uT X G aK,ax,ay,aF,ao,ap,aA,aq,au,aP,⟨aJ.1,aR.1,aR.2.1,aJ.2⟩,uT X G aO,aH,aG,aw,ak,am,aI,aE,⟨af.1,aS.1,aS.2.1,af.2⟩,uT X G aD,ac,ag,ad,ae,ah,aN,⟨aC.1,aT.1,aT.2.1,aC.2⟩,uT X G aM,al,[_:uT X G g1],[_:uT X G g2],[_:uT X G g3],[_:uT X G g4],[_:uT X G g5],[_:uT X G g6],[_:uT X G g7],[_:uT X G g8],[_:uT X G g9],[_:uT X G dF],[_:uT X G dG],z1,z2,z3,z4,z5,z6,z7,z8,z9,gH,gI,gJ,gK,gL,gM⟩]
variable {K:o0}{h:og}{mg:Str->ot o7}{f:o6}
def mk1 (X:K.In h)(G:h.Ns Vo mg){O:o6}{x y:Str}(z:∃m,PySem.W.nsIn K Vo y=u_ (u_ (.ref m))/\PySem.W.nsIn K O x=u_ (u_ (.ref m)))(e:mg y=u_ (.ref f)):PySem.W.nsIn K O x=u_ (u_ (.ref f)):=by
 erw[z,m,h1,h2];have:=(uT X G h1).symm.trans e;injection this with this
 injection this with this
 rw[<-this];exact h2
nonrec def MKP:oq (Str×Str):= [("text","text_made"),("self","self_made"),("copy","copy_made"),("row","row_made"),("put","put_made"),("join","join_made"),("first","first_made"),("rest","rest_made"),("size","size_made"),("cut","cut_made"),("glue","glue_made")]
nonrec def Aa8 (e:Gg):ot Str:=match e.key with
 | .str x _=>u_ x
 |_=>U_
variable {a:o6}
def kX {es:Array Gg}(hl:K.lookup a=u_ ⟨.type "dict",U_,.dict es n,#[]⟩)(hk:es.toList.map Aa8=FRM.map λx=>u_ x.1)(hz:JZ z=U_):PySem.W.nsIn K a z=u_ none:=by
 have h1:∀e∈es.toList,∃x t,e.key= .str x t/\x≠z:=by
  intro e U;have hm:Aa8 e∈es.toList.map Aa8:=Ae.mpr [e:U:1];rw[hk] at hm;erw[Ae.mp hm,x,Z,ex];have O:=wq hz x Z;unfold Aa8 at ex;split at ex
  ·rename_i y t hy
   cases ex;exact⟨_,_,hy,O⟩
  ·cases ex
 unfold PySem.W.nsIn;rw[hl]
 try dsimp only
 have f1:es.toList.find? (λe=>e.key.isStr z)=none:=by
  rw[Uk];intro e U;erw[h1 e U,x,t,Z,O];rw[Z];exact λq=>O (uq q)
 have f2:es.toList.any (·.refKey)=false:=by
  rw[Tu];intro e U;erw[h1 e U,x,t,Z,O];unfold TN;rw[Z];exact ub
 rw[f1,f2]
 rfl
def AcX {w:oj}{K:o0}{h:og}{mg:Str->ot o7}{a:Ad}(T:Tx K mg a)(X:K.In h)(G:h.Ns Vo mg){aB aA aF aM Z O U aW:o6}{eF eM:Array Gg}{nF nM:Nat}
  (gB:#[K,"BOXES"]=u_ (u_ (.ref aB))) (gA:#[K,"ASKING"]=u_ (u_ (.ref aA))) (gF:#[K,"FORMS"]=u_ (u_ (.ref aF))) (gM:#[K,"MAKERS"]=u_ (u_ (.ref aM)))
  (lB:TZ K aB BX) (lA:TZ K aA ["ask","has","names"]) (lF:K.lookup aF=u_ ⟨.type "dict",U_,.dict eF nF,#[]⟩) (lM:K.lookup aM=u_ ⟨.type "dict",U_,.dict eM nM,#[]⟩)
  (kF:PySem.W.KeysLit w.params eF.toList) (kM:PySem.W.KeysLit w.params eM.toList) (zF:(aF==Vn)=V1) (zM:(aM==Vn)=V1)
  (fF:∀x∈FRM,TZn K aF x.1 (x.2.map Kd.t)) (fM:∀p∈MKP,∃m,PySem.W.nsIn K Vo p.2=u_ (u_ (.ref m))/\PySem.W.nsIn K aM p.1=u_ (u_ (.ref m))) (oM:∀z∈AbL,PySem.W.nsIn K aM z=u_ U_)
  (kk:eF.toList.map Aa8=FRM.map λx=>u_ x.1)
  (g1:#[K,"BadRule"]=u_ (u_ (.ref Z))) (b1:PySem.W.excIn K Z VE "ValueError.__new__"=v_)
  (g2:#[K,"BadName"]=u_ (u_ (.ref O))) (b2:PySem.W.excIn K O VE "ValueError.__new__"=v_)
  (g3:#[K,"BadAnswer"]=u_ (u_ (.ref U)))
  (e3:PySem.W.exmOne K (.ref U) (.ref U)=u_ v_)
  (gW:#[K,"WrightError"]=u_ (u_ (.ref aW)))
  (e2:PySem.W.exmOne K (.ref O) (.ref aW)=u_ v_) (x2:AwV.ExcCls K O):∃g,Fx K w mg g a:=by
 exists ⟨aB,aA,aF,aM,Z,O,U,aW⟩,⟨uT X G gB,uT X G gA,uT X G gF,uT X G gM,λH=>lB.sq (),λH=>lA.sq (),⟨zF,eF,nF,lF,kF⟩,λx hx=>?_,⟨zM,eM,nM,lM,kM⟩,mk1 X G (fM ("text","text_made") ()) T.lr.m,mk1 X G (fM ("self","self_made") ()) T.lC.m,mk1 X G (fM ("copy","copy_made") ()) T.lK.m,mk1 X G (fM ("row","row_made") ()) T.lT.m,mk1 X G (fM ("put","put_made") ()) T.lV.m,mk1 X G (fM ("join","join_made") ()) T.lG.m,mk1 X G (fM ("first","first_made") ()) T.ky.m,mk1 X G (fM ("rest","rest_made") ()) T.lE.m,mk1 X G (fM ("size","size_made") ()) T.lz.m,mk1 X G (fM ("cut","cut_made") ()) T.lX.m,mk1 X G (fM ("glue","glue_made") ()) T.lJ.m,oM,λz hz=>kX lF kk hz,uT X G g1,b1,uT X G g2,b2,uT X G g3,e3,uT X G gW,e2,x2⟩
 erw[fF x hx,q,h1,h2];exact⟨q,h1,λH=>by rw[zk];exact h2.sq (by rw[u9];exact vg (BL x hx) ())⟩
end K46
open PySem PySem.W PyProof.Rows L2
set_option maxRecDepth 100000 in
set_option maxHeartbeats 0 in
theorem PySem.Challenge.cw_askwright_k46_whole_rings_hold_nothing_u_holds : PySem.Challenge.rw_askwright_k46_whole_rings_hold_nothing_u.Holds := by
 w_on;o_law;k_head;(case hw=>w_witness2)
 k_fill
 refine L2.IH (l:=PySem.Challenge.rw_askwright_k46_whole_rings_hold_nothing_u) (n:=63) (k:=18) (x:="script") (CX:=L2.CX0) (sp:=K46.LZ) rfl (by decide) rfl ⟨rfl,by decide,by decide⟩ (fun w h Y=>PySem.W.kIn_of Y) ?F ?S ?C
 case F=>
  intro w mg fa h KX G hmg
  have T:∃a,K46.Tx (L2.KOf KX) mg a:=by
   try dsimp only [L2.KOf]
   refine' K46.Aca KX G ..
   all_goals first|exact⟨by k_is,_,_,_,_,_,_,_,_,_,by k_is,by k_is,by k_is⟩|exact⟨by k_is,by k_is,_,_,_,_,_,_,_,_,_,by k_is,by k_is,by k_is⟩|(show _=_;k_is)|exact⟨by k_is,by k_is,by k_is,by k_is⟩|exact⟨by k_is,by k_is⟩|(intro x hx;simp only [uH,uW,uS] at hx;rcases hx with rfl|rfl|rfl|rfl|rfl|rfl|rfl|rfl|rfl|rfl|rfl|rfl|rfl|rfl|rfl<;>k_is)|skip
  erw[T,a,T]
  have C:∃g,K46.Fx (L2.KOf KX) w mg g a:=by
   try dsimp only [L2.KOf] at T⊢
   refine' K46.AcX T KX G (kF:= ?kF) (kM:= ?kM) (fF:= ?fF) (fM:= ?fM) (oM:= ?oM) (kk:= ?kk) (b1:= ?b1) (b2:= ?b2) (e3:= ?e3) (e2:= ?e2) (x2:= ?x2) ..
   all_goals try (first|(show _=u_ (u_ _);k_is)|(show _=u_ (Obj.mk _ _ _ _);k_is)|exact⟨_,_,_,_,by k_is,rfl⟩)
   (case kF=>(repeat (first|exact trivial|refine[⟨_,_,rfl,rfl⟩:?_])));(case kM=>(repeat (first|exact trivial|refine[⟨_,_,rfl,rfl⟩:?_])))
   case fF=>
    intro x hx
    unfold FRM at hx
    simp only [uH,uW,uS] at hx
    rcases hx with rfl|rfl|rfl|rfl|rfl|rfl|rfl|rfl|rfl|rfl|rfl|rfl|rfl|rfl|rfl|rfl|rfl|rfl|rfl|rfl<;>exact⟨_,by k_is,_,_,_,_,by k_is,rfl⟩
   case fM=>
    intro x hx
    unfold K46.MKP at hx
    simp only [uH,uW,uS] at hx
    rcases hx with rfl|rfl|rfl|rfl|rfl|rfl|rfl|rfl|rfl|rfl|rfl<;>exact⟨_,by k_is,by k_is⟩
   case oM=>
    intro x hx
    unfold K46.AbL at hx
    simp only [uH,uW,uS] at hx
    rcases hx with rfl|rfl|rfl|rfl|rfl|rfl|rfl|rfl|rfl<;>k_is
   (case kk=>rfl);(case b1=>k_exc);(case b2=>k_exc);(case e3=>kts_exm);(case e2=>kts_exm);(case x2=>exact⟨by k_is,by k_is,by k_is,by k_is,by k_is,by k_is,by k_is⟩)
   all_goals rfl
  erw[C,g,C]
  have e0:=hmg.symm.trans T.BI.m
  cases e0
  exact⟨_,T.BI.law (fun _ _ _ _ _ _ _=>rfl),(by erw[T.BI.F.ex,_,_,_,_,_,_,_,_,_,e,_];rw [e];rfl),fun base kb nb=>K46.AaO T C⟩
 case S=>exact fun w H a ns hl hO hS=>⟨a,ns,rfl,hS,hl,fun _=>rfl⟩
 case C=>exact fun _ _ _ _ z=>z
